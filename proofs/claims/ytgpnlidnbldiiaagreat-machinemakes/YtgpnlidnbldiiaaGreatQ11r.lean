/-
  Texts laid as one.
-/
import Derived.Test.YtgpnlidnbldiiaaGreatQ10r
import Derived.Laws.OwnMore
set_option maxHeartbeats 8000000
set_option maxRecDepth 100000
/-
 Read.
-/
namespace Go.Proofs.YtgpnlidnbldiiaaGreat
open Go.RowKit
def gx:Array Value:=#[.int .i64 0,.int .i64 0,.int .i64 0,.string ⟨#[]⟩,.int .u64 0,.slice none 0 0,.int .i64 0]
theorem aI {w:World}{g:Nat}{cs:Array Value}{fn:Func}{p:Tmp}(hr:fn.results=#[.cell p 39]) (tmps:Array Value) (hp:tmps.getD p undef=.pointer (some ⟨g,0,none⟩)) (hg:w.heap[g]?=some (.cells cs 39 (0,0))) (hs:cs.size=7) :
 (results fn tmps).run Tryz.prog w=.ok (.agg cs) w :=
 results_cell_row hr tmps w g _ cs _ _ hp hg Tryz.underlying39 rfl (by rw [hs];exact lS)
theorem xO {w:World}{b:Nat}{v:Value}{p:Option Addr}{t:Tr}{mb:Nat}{K:List (aV × Value)}{G:Gr}(h:GA w b v p t mb K G) (q:List UInt8) (hq:q.length≤1000000000) :
 Calls Tryz.prog 116 #[.pointer (some ⟨b,0,none⟩),.string (ak q)] w fun e w'=>e=.returned (sH (bK G q))∧aa [] w w':=by
 have hK1:aa [] w (iz w):=(aa.refl _ _).alloc _;have hG1:=h.kept hK1;have HB:Hid ((iz w).heap[w.heap.size]?=some (.cells gx 39 (0,0))):=heap_alloc_new w _;have cM:=jh hG1;have cN:=lx q (iz w) (by omega);have cG:=fun W (hk:aa [] (iz w) W)=>ox _ W p t q ((hG1.kept hk).tree) (by omega);rw [vg h.good.1,h.list] at cG;have HG1:Hid (GA (iz w) b v p t mb K G):=hG1;have hfind:=show ex q G.ls=G.ls.find? (fun y=>decide (q=y.p)) from rfl
 rw [← hfind] at cG;clear hfind hG1 h;cases hN:dJ q with
 | none =>
   have HV:Hid (bK G q=⟨5,0,[],0⟩):=by show bK G q=_;simp [bK,hN]
   rw [hN] at cN;simp only [rA] at cN;clear cG hN;unfold iz at *;go_enter Tryz.func116,Tryz.ntmps116;(go_wp2_with fail);refine cM.mono ?_;rintro _ _ ⟨rfl,rfl⟩;(go_wp2_with fail);refine cN.mono ?_;rintro _ w2 ⟨rfl,hK2⟩;have hB2:=hK2.at HB.out (by simp);obtain ⟨r0,r1,r2,r3,r4,r5,r6⟩:=bL hB2;have f:=ai hB2;have HB2:Hid (w2.heap[w.heap.size]?=some (.cells gx 39 (0,0))):=hB2;clear hB2;(go_wp2_with fail);refine bodyPost_ret (aI (by rfl) _ (by rfl) (ff HB2.out _ _ _ _ _ _ _) rfl) rfl ?_;exact ⟨by rw [HV.out];rfl,(hK1.trans hK2 (by simp)).trans (aQ (aa.refl [w.heap.size] w2) (by simp) _ _ _ _ _ _ _) (by simp)⟩
 | some q' =>
   by_cases hqq:q'=q
   ·subst hqq;rw [hN] at cN;simp only [rA] at cN;cases hF:ex q' G.ls with
    | none =>
      have HV:Hid (bK G q'=⟨10,0,q',0⟩):=by show bK G q'=_;simp [bK,hN,hF]
      rw [hF] at cG;simp only [eW] at cG;clear hN hF;unfold iz at *;go_enter Tryz.func116,Tryz.ntmps116;(go_wp2_with fail);refine cM.mono ?_;rintro _ _ ⟨rfl,rfl⟩;(go_wp2_with fail);refine cN.mono ?_;rintro _ w2 ⟨rfl,hK2⟩;obtain ⟨e0,e1,e2⟩:=bC (HG1.out.kept hK2).at_;(go_wp2_with fail);refine (cG _ hK2).mono ?_;rintro _ w3 ⟨rfl,hK3⟩;replace hK3:=hK2.trans hK3 (by simp);have hKb:=(aa.refl [] w3).alloc (.cells #[.string ⟨#[]⟩,.int .u64 0,.int .i64 0,.bool false] 141);have hB3:=hKb.at (hK3.at HB.out (by simp)) (by simp);obtain ⟨r0,r1,r2,r3,r4,r5,r6⟩:=bL hB3;have f0:=ai hB3 0;have f1:=ai hB3 1;have f2:=ai hB3 2;have f3:=ai hB3 3;have f4:=ai hB3 4;have f5:=ai hB3 5;have f6:=ai hB3 6;have HB3:Hid ((w3.alloc (.cells #[.string ⟨#[]⟩,.int .u64 0,.int .i64 0,.bool false] 141)).heap[w.heap.size]?=some (.cells gx 39 (0,0))):=hB3;clear hB3 e0 e1 e2;(go_wp2_with fail);refine bodyPost_ret (aI (by rfl) _ (by rfl) (ff HB3.out _ _ _ _ _ _ _) rfl) rfl ?_;exact ⟨by rw [HV.out];rfl,((hK1.trans hK3 (by simp)).trans hKb (by simp)).trans (aQ (aa.refl [w.heap.size] _) (by simp) _ _ _ _ _ _ _) (by simp)⟩
    | some y =>
      cases hy:y.g with
      | true =>
        have HV:Hid (bK G q'=⟨10,0,q',0⟩):=by show bK G q'=_;simp [bK,hN,hF,hy]
        rw [hF] at cG;simp only [eW,jm,hy] at cG;clear hN hF;unfold iz at *;go_enter Tryz.func116,Tryz.ntmps116;(go_wp2_with fail);refine cM.mono ?_;rintro _ _ ⟨rfl,rfl⟩;(go_wp2_with fail);refine cN.mono ?_;rintro _ w2 ⟨rfl,hK2⟩;obtain ⟨e0,e1,e2⟩:=bC (HG1.out.kept hK2).at_;(go_wp2_with fail);refine (cG _ hK2).mono ?_;rintro _ w3 ⟨rfl,hK3⟩;replace hK3:=hK2.trans hK3 (by simp);have hKb:=(aa.refl [] w3).alloc (.cells #[.string (ak y.p),.int .u64 y.d,.int .i64 y.r,.bool true] 141);have hB3:=hKb.at (hK3.at HB.out (by simp)) (by simp);obtain ⟨r0,r1,r2,r3,r4,r5,r6⟩:=bL hB3;have f0:=ai hB3 0;have f1:=ai hB3 1;have f2:=ai hB3 2;have f3:=ai hB3 3;have f4:=ai hB3 4;have f5:=ai hB3 5;have f6:=ai hB3 6;have HB3:Hid ((w3.alloc (.cells #[.string (ak y.p),.int .u64 y.d,.int .i64 y.r,.bool true] 141)).heap[w.heap.size]?=some (.cells gx 39 (0,0))):=hB3;clear hB3 e0 e1 e2;(go_wp2_with fail);refine bodyPost_ret (aI (by rfl) _ (by rfl) (ff HB3.out _ _ _ _ _ _ _) rfl) rfl ?_;exact ⟨by rw [HV.out];rfl,((hK1.trans hK3 (by simp)).trans hKb (by simp)).trans (aQ (aa.refl [w.heap.size] _) (by simp) _ _ _ _ _ _ _) (by simp)⟩
      | false =>
        have HV:Hid (bK G q'=⟨9,y.r,q',y.d⟩):=by show bK G q'=_;simp [bK,hN,hF,hy]
        rw [hF] at cG;simp only [eW,jm,hy] at cG;clear hN hF;unfold iz at *;go_enter Tryz.func116,Tryz.ntmps116;(go_wp2_with fail);refine cM.mono ?_;rintro _ _ ⟨rfl,rfl⟩;(go_wp2_with fail);refine cN.mono ?_;rintro _ w2 ⟨rfl,hK2⟩;obtain ⟨e0,e1,e2⟩:=bC (HG1.out.kept hK2).at_;(go_wp2_with fail);refine (cG _ hK2).mono ?_;rintro _ w3 ⟨rfl,hK3⟩;replace hK3:=hK2.trans hK3 (by simp);have hKb:=(aa.refl [] w3).alloc (.cells #[.string (ak y.p),.int .u64 y.d,.int .i64 y.r,.bool false] 141);have hB3:=hKb.at (hK3.at HB.out (by simp)) (by simp);obtain ⟨r0,r1,r2,r3,r4,r5,r6⟩:=bL hB3;have f0:=ai hB3 0;have f1:=ai hB3 1;have f2:=ai hB3 2;have f3:=ai hB3 3;have f4:=ai hB3 4;have f5:=ai hB3 5;have f6:=ai hB3 6;have HB3:Hid ((w3.alloc (.cells #[.string (ak y.p),.int .u64 y.d,.int .i64 y.r,.bool false] 141)).heap[w.heap.size]?=some (.cells gx 39 (0,0))):=hB3;clear hB3 e0 e1 e2;(go_wp2_with fail);refine bodyPost_ret (aI (by rfl) _ (by rfl) (ff HB3.out _ _ _ _ _ _ _) rfl) rfl ?_;exact ⟨by rw [HV.out];rfl,((hK1.trans hK3 (by simp)).trans hKb (by simp)).trans (aQ (aa.refl [w.heap.size] _) (by simp) _ _ _ _ _ _ _) (by simp)⟩
   ·have HV:Hid (bK G q=⟨5,0,[],0⟩):=by show bK G q=_;simp [bK,hN,hqq]
    have hne:((ak q').toList==(ak q).toList)=false:=by rw [dl];simpa using hqq
    rw [hN] at cN;simp only [rA] at cN;clear cG hN;unfold iz at *;go_enter Tryz.func116,Tryz.ntmps116;(go_wp2_with fail);refine cM.mono ?_;rintro _ _ ⟨rfl,rfl⟩;(go_wp2_with fail);refine cN.mono ?_;rintro _ w2 ⟨rfl,hK2⟩;have hB2:=hK2.at HB.out (by simp);obtain ⟨r0,r1,r2,r3,r4,r5,r6⟩:=bL hB2;have f:=ai hB2;have HB2:Hid (w2.heap[w.heap.size]?=some (.cells gx 39 (0,0))):=hB2;clear hB2;(go_wp2_with fail);refine bodyPost_ret (aI (by rfl) _ (by rfl) (ff HB2.out _ _ _ _ _ _ _) rfl) rfl ?_;exact ⟨by rw [HV.out];rfl,(hK1.trans hK2 (by simp)).trans (aQ (aa.refl [w.heap.size] w2) (by simp) _ _ _ _ _ _ _) (by simp)⟩
theorem rK (w:World) (ao:Option Addr) (n c:Nat) (K:List (aV × Value)) (hS:iC w ao n c K) (hnil:ao=none→c=0) (hn:n≤100000000) :
 Calls Tryz.prog 112 #[.slice ao n c] w fun e w'=>∃ v,e=.returned v∧bk w.heap.size w' v K∧aa [] w w':=by
 have hl:=hS.1;have hc:=hS.2.1;have hm:=hS.2.2.1;unfold maxLen at hm;have q0:∀ (w:World) (a:Option Addr) (n c:Nat),(binOp .eql 37 (.slice a n c) (.slice none 0 0)).run Tryz.prog w=.ok (.bool a.isNone) w:=fun w a n c=>Lib.run_eql_slice_nil w _ _ a n c 0 0 Tryz.underlying37;cases ao with
 | none =>
   obtain rfl:=hnil rfl;obtain rfl:n=0:=by omega
   obtain rfl:K=[]:=by simpa using hl
   clear hS;go_enter Tryz.func112,Tryz.ntmps112;(go_wp2_with fail);go_ret
   exact ⟨_,rfl,bk.nil _ _,aa.refl _ _⟩
 | some ad =>
   have hA:=(aa.refl [] w).alloc (.cells #[] 137);have hO0:=wV w w.heap.size (Nat.le_refl _);have HS:Hid (iC (w.alloc (.cells #[] 137)) (some ad) n c K):=hS.kept hA;have HL:Hid (K.length=n):=hl;clear hS hl;go_enter Tryz.func112,Tryz.ntmps112;(go_wp2_with (at_builtin;refine qj rfl _ _ rfl w.heap.size _ [] rfl hO0 ad n c K rfl HL.out.symm HS.out.runs HS.out.ones (by rw [HL.out];simp;omega) (by simp) ?_));intro v' w' hO hg;have hK:aa [] w w':=hA.grown hg fun k hk=>.inr (World.ownsRow.lt hO0 k hk).1;clear hg hO0;(go_wp2_with fail);go_ret
   exact ⟨v',rfl,hO,hK⟩
def zE (w:World) (L:List aV) (e:Ending) (w':World):Prop :=
 ∃ v K',e=.returned v∧K'.map Prod.fst=L∧bk w.heap.size w' v K'∧gK w.heap.size w' K'∧aa [] w w'
def yw (w:World) (K:List (aV × Value)) (g cap:Nat) (iv:Value) (wr:World):Prop :=
 ∃ (i:Nat) (K':List (aV × Value)),iv=.int .i64 (i:Int)∧i≤K.length∧Hid (K'.map Prod.fst=K.map Prod.fst)∧Hid (bk w.heap.size wr (.slice (some ⟨g,0,none⟩) K.length cap) K') ∧
  Hid (∀ j (h:j < K'.length),j < i→aP w.heap.size wr K'[j].2 K'[j].1.c)∧Hid (∀ j (h:j < K'.length) (h2:j < K.length),i≤j→K'[j]=K[j])∧Hid (aa [] w wr)
theorem zT {w wr w3:World}{K K':List (aV × Value)}{g cap i:Nat}{v2:Value}(hi:i < K.length) (h1:K'.map Prod.fst=K.map Prod.fst) (h2:bk w.heap.size wr (.slice (some ⟨g,0,none⟩) K.length cap) K')
 (h3:∀ j (h:j < K'.length),j < i→aP w.heap.size wr K'[j].2 K'[j].1.c) (h4:∀ j (h:j < K'.length) (h2:j < K.length),i≤j→K'[j]=K[j]) (h5:aa [] w wr) (hK:aa [] wr w3) (hO:aP wr.heap.size w3 v2 K[i].1.c) :
 yw w K g cap (.int .i64 ((i+1:Nat):Int)) (w3.setCell ⟨g,i*4+3,none⟩ v2):=by
 have hl:K'.length=K.length:=by have:=congrArg List.length h1;simpa using this
 have hi':i < K'.length:=by omega
 have e0:K'[i]=K[i]:=h4 i hi' hi (Nat.le_refl _);have hR3:bk w.heap.size w3 (.slice (some ⟨g,0,none⟩) K.length cap) K':=hK.ownsRow h2 (by simp);have hK2:aa [g] w3 (w3.setCell ⟨g,i*4+3,none⟩ v2):=(aa.refl _ _).setCell (by simp) _
 have hT:aJ w3 [g] [137]:=fun k hk cur t mk hh=>by
  simp at hk;subst hk
  obtain ⟨c2,h⟩:=ar hR3 (k:=k) rfl;rw [h] at hh;cases hh;simp
 refine ⟨i+1,K'.set i (K'[i].1,v2),rfl,by omega,?_,hR3.set hi' v2,?_,?_,?_⟩
 ·show (K'.set i (K'[i].1,v2)).map Prod.fst=K.map Prod.fst;rw [List.map_set,← h1];refine List.ext_getElem (by simp) fun j hj hj2=>?_;by_cases e:i=j
  ·subst e;simp
  ·simp [List.getElem_set_ne e]
 ·intro j hj hlt;simp only [List.length_set] at hj;by_cases e:i=j
  ·subst e;simp only [List.getElem_set_self];rw [e0];exact ap hK2 hT (hO.mono h5.size) (by decide)
  ·simp only [List.getElem_set_ne e];exact ap hK2 hT (hK.ownsRow (h3 j hj (by omega)) (by simp)) (by decide)
 ·intro j hj hj2 hle;rw [List.getElem_set_ne (by omega)];exact h4 j (by simpa using hj) hj2 (by omega)
 ·refine (h5.trans hK (by simp)).trans hK2 (fun k hk=>.inr ?_);simp at hk;subst hk
  exact (World.ownsRow.lt h2 k rfl).1
theorem lj (w:World) (ao:Option Addr) (n c:Nat) (K:List (aV × Value)) (hS:iC w ao n c K) (hnil:ao=none→c=0) (hn:n≤1000000) (hcl:∀ x∈K,x.1.c.length≤1000000) :
 Calls Tryz.prog 107 #[.slice ao n c] w fun e w'=>zE w (K.map Prod.fst) e w':=by
 have cC:=rK w ao n c K hS hnil (by omega);have hl:=hS.1;subst hl;have HS:Hid (iC w ao K.length c K):=hS;have HC:Hid (∀ x∈K,x.1.c.length≤1000000):=hcl;clear hS hcl;go_enter Tryz.func107,Tryz.ntmps107;go_wp2_with fail
 refine cC.mono ?_;rintro _ w1 ⟨v,rfl,hR,hK1⟩
 obtain ⟨ao',cap,rfl,hcap,hcm⟩:∃ ao cap,v=.slice ao K.length cap∧K.length≤cap∧cap≤maxLen:=by
  obtain ⟨_,h2⟩:=hR;rcases h2 with ⟨h3,h4⟩ | ⟨g,cap,cur,h3,_,_,h4,h5,_⟩
  ·exact ⟨none,0,by rw [h3,h4],by omega,Nat.zero_le _⟩
  ·exact ⟨_,cap,h3,h4,h5⟩
 unfold maxLen at hcm;have HR:Hid (bk w.heap.size w1 (.slice ao' K.length cap) K):=hR;have HK1:Hid (aa [] w w1):=hK1;clear hR hK1 cC;by_cases h0:K.length=0
 ·have hK0:K=[]:=by simpa using h0
  subst hK0;have hz:(([]:List (aV × Value)).length:Int)=0:=rfl;replace HR:Hid (bk w.heap.size w1 (.slice ao' 0 cap) []):=HR;clear h0;(go_wp2_with fail);go_loopw [9] (fun iv wr=>iv=.int .i64 0∧w1=wr) (fun _ _=>1)
  case atStart=>exact ⟨rfl,rfl⟩
  case round =>
   obtain ⟨rfl,rfl⟩:=hrel;(go_wp2_with fail);go_ret
   exact ⟨_,[],rfl,rfl,HR.out,by intro x hx;simp at hx,HK1.out⟩
 ·obtain ⟨g,cap',he,_,_⟩:=World.ownsRow.form HR.out (by omega);obtain ⟨rfl,rfl⟩:ao'=some ⟨g,0,none⟩∧cap=cap':=by simpa using he
  clear he;(go_wp2_with fail);go_loopw [9] (fun iv wr=>yw w K g cap iv wr) (fun iv _=>K.length - (intOf iv).toNat)
  case atStart=>exact ⟨0,K,rfl,Nat.zero_le _,rfl,HR,fun j h h2=>by omega,fun j h h2 h3=>rfl,HK1⟩
  case round =>
   obtain ⟨i,K',rfl,hi,H1,H2,H3,H4,H5⟩:=hrel;by_cases hlt:i < K.length
   ·have hlt':(i:Int) < K.length:=by omega
    have hic:i≤cap:=by omega
    have hl:K'.length=K.length:=by have:=congrArg List.length H1.out;simpa using this
    have HR2:Hid (wr.ownsRow w.heap.size 137 4 (.slice (some ⟨g,0,none⟩) K.length cap) K.length (K'.flatMap gE)):=by have:=H2.out;unfold bk at this;rw [hl] at this;exact this
    have d0:=World.ownsRow.cellAt HR2.out (i*4+3) (by omega);rw [ql K' i (by omega) 3 (by omega),show (gE K'[i])[3]?=some K[i].2 from by rw [H4.out i (by omega) hlt (Nat.le_refl _)];rfl] at d0;have f0:=World.ownsRow.frozenAt HR2.out (i*4+3);obtain ⟨mo,m,mc,hmv,hms,hmn⟩:=HS.out.2.2.2.2 K[i] (List.getElem_mem hlt);rw [hmv] at d0;have hml:=hms.1;have hmc:=HC.out K[i] (List.getElem_mem hlt);have cD:=lm wr mo m mc K[i].1.c (hms.kept H5.out (by simp)) hmn (by omega);have HN:Hid (∀ w3 v2,aa [] wr w3→aP wr.heap.size w3 v2 K[i].1.c→yw w K g cap (.int .i64 ((i+1:Nat):Int)) (w3.setCell ⟨g,i*4+3,none⟩ v2)):=fun w3 v2 h1 h2=>zT hlt H1.out H2.out H3.out H4.out H5.out h1 h2;clear hmv hms hmn hml hmc;(go_wp2_with fail);refine cD.mono ?_;rintro _ w3 ⟨v2,rfl,hO2,hK2⟩;obtain ⟨a2,n2,c2,rfl,_,_⟩:=hO2.chV;have d3:=hK2.cell d0 (by simp);have f3:=World.ownsRow.frozenAt (hK2.ownsRow HR2.out (by simp)) (i*4+3);have HF:=Hid.out (HN.out w3 _ hK2 hO2:Hid (yw w K g cap (.int .i64 ((i+1:Nat):Int)) (w3.setCell ⟨g,i*4+3,none⟩ (.slice a2 n2 c2))));have HF2:Hid (yw w K g cap (.int .i64 ((i+1:Nat):Int)) (w3.setCell ⟨g,i*4+3,none⟩ (.slice a2 n2 c2))):=HF;clear HF hO2 cD;(go_wp2_with fail);go_roundw
    case rel=>exact HF2.out
    case measure=>simp [intOf];omega
   ·have hlt':¬ (i:Int) < K.length:=by omega
    (go_wp2_with fail);go_ret
    have hl:K'.length=K.length:=by have:=congrArg List.length H1.out;simpa using this
    refine ⟨_,K',rfl,H1.out,by unfold bk;rw [hl];have:=H2.out;unfold bk at this;rw [hl] at this;exact this,fun x hx=>?_,H5.out⟩;obtain ⟨j,hj,rfl⟩:=List.getElem_of_mem hx;exact H3.out j hj (by omega)
theorem pD {w:World}{b:Nat}{v:Value}{p:Option Addr}{t:Tr}{mb:Nat}{K:List (aV × Value)}{G:Gr}(h:GA w b v p t mb K G) (hW:Wf G) (hl:G.cs.length≤10000) :
 Calls Tryz.prog 58 #[.pointer (some ⟨b,0,none⟩)] w fun e w'=>zE w G.cs e w':=by
 obtain ⟨ao,c,hv,hs,hnil⟩:=h.row.sl h.own;have cC:=mT h;have hkl:K.length=G.cs.length:=by rw [← h.com];simp
 have cK:=lj w ao K.length c K hs hnil (by omega) (fun x hx=>by
  have h1:=hW.com x.1 (by rw [← h.com];exact List.mem_map_of_mem hx);have:=h1.1.2.1;omega)
 rw [h.com] at cK;rw [hv] at cC;clear h hs hv hnil hkl hl hW;generalize K.length=n at *;go_enter Tryz.func58,Tryz.ntmps58;go_wp2_with fail
 refine cC.mono ?_;rintro _ W ⟨rfl,hW0⟩;obtain rfl:=hW0.symm;go_wp2_with fail
 refine cK.mono ?_;rintro e w1 ⟨v1,K1,rfl,h1,h2,h3,h4⟩;go_wp2_with fail
 go_ret
 exact ⟨v1,K1,rfl,h1,h2,h3,h4⟩
theorem nM {w:World}{b:Nat}{S:List Nat}{G:Gr}(h:qu w b S G) (hW:Wf G) (hl:G.cs.length≤10000)
 (base:Int) (n:List UInt8) (hn:n.length≤1000000) (ao:Option Addr) (m c:Nat) (L:List Ch) (hS:di w ao m c L) (hnil:ao=none→c=0) (hm:m≤1000000) (hp:∀ x∈L,x.p.length≤1000000000) :
 Calls Tryz.prog 137 #[.pointer (some ⟨b,0,none⟩),.int .i64 base,.string (ak n),.slice ao m c] w fun e w'=>e=.returned (sH (bi G base n L))∧uO w b S (bB G base n L) w':=by
 obtain ⟨v,p,t,mb,K,hG,rfl⟩:=h;exact xT hG hW hl base n hn ao m c L hS hnil hm hp
theorem wm {p:List UInt8}{d:Int}(h:dJ p=some p):gy [⟨p,false,d⟩]=0:=by
 refine ia ((gn _).2 ⟨by simp,by simp,?_,by simp⟩);intro x hx;simp at hx;subst hx
 simp [fk,h]
theorem Cs:dJ [97]=some [97]:=by decide
theorem A0 {p:List UInt8}{d b:Int}(h:dJ p=some p) (hb:0≤b):bY b [] [⟨p,false,d⟩]=false:=by
 simp [bY,wm h];omega
theorem AV {G:Gr}{p:List UInt8}{d b:Int}(h:dJ p=some p) (hb:0≤b) (hl:¬ (G.cs.length:Int) < b):dL G b [] [⟨p,false,d⟩]=(bW G.ls b [⟨p,false,d⟩]).map fun x=>⟨3,x.2,x.1,0⟩:=by
 rw [fj (A0 h hb) hl];rfl
def Aa:Gr:=⟨[⟨1,0,[],[⟨[97],false,5⟩]⟩],[⟨[97],5,1,false⟩],[]⟩
theorem CU:dL ba 0 [] [⟨[97],false,5⟩]=none:=by
 rw [AV Cs (by omega) (by simp [ba])];rfl
theorem CO:bi ba 0 [] [⟨[97],false,5⟩]=⟨2,1,[],0⟩:=by rw [(bD CU).1];rfl
theorem Dn:bB ba 0 [] [⟨[97],false,5⟩]=Aa:=by rw [(bD CU).2];rfl
def fT (w0 w:World) (b:Nat) (G:Gr):Prop:=∃ S,qu w b S G∧aa [] w0 w∧∀ k∈S,w0.heap.size≤k
theorem fT.kept {w0 w w':World}{b:Nat}{G:Gr}(h:fT w0 w b G) (k:aa [] w w'):fT w0 w' b G:=by
 obtain ⟨S,h1,h2,h3⟩:=h;exact ⟨S,h1.kept k,h2.trans k (by simp),h3⟩
theorem fT.keeps {w0 w:World}{b:Nat}{G:Gr}(h:fT w0 w b G):aa [] w0 w:=by
 obtain ⟨S,h1,h2,h3⟩:=h;exact h2
theorem yR (w:World):Calls Tryz.prog 31 #[] w fun e w'=>∃ b,e=.returned (.pointer (some ⟨b,0,none⟩))∧fT w w' b ba :=
 (ot w).mono fun _ _ ⟨b,S,h1,h2,h3,h4⟩=>⟨b,h1,S,h2,h3,h4⟩
theorem uR {w w1:World}{v1:Value}{K1:List (aV × Value)}{cs:Array Value}(hB:w1.heap[w.heap.size]?=some (.cells cs 39 (0,0))) (hK:aa [] w w1) (hR:bk (w.heap.size+1) w1 v1 K1) (hO:gK (w.heap.size+1) w1 K1) {u0 u1 u2 u3 u4 u5 u6:Value} :
 Hid (bk w.heap.size (eg w1 w.heap.size u0 u1 u2 u3 u4 u5 u6) v1 K1∧gK w.heap.size (eg w1 w.heap.size u0 u1 u2 u3 u4 u5 u6) K1∧aa [] w (eg w1 w.heap.size u0 u1 u2 u3 u4 u5 u6)):=by
 have hk:aa [w.heap.size] w1 (eg w1 w.heap.size u0 u1 u2 u3 u4 u5 u6):=aQ (aa.refl _ _) (.inl (by simp)) _ _ _ _ _ _ _;have hT:aJ w1 [w.heap.size] [39]:=fun k hk cur t mk hh=>by rw [List.mem_singleton] at hk;subst hk;rw [hB] at hh;cases hh;simp
 refine ⟨?_,fun x hx=>?_,hK.trans hk (fun i hi=>by rw [List.mem_singleton] at hi;subst hi;exact .inr (Nat.le_refl _))⟩
 ·obtain ⟨h1,h2⟩:=ap hk hT hR (by decide);exact ⟨h1,h2.imp id fun ⟨g,cap,cur,hv,hg,r⟩=>⟨g,cap,cur,hv,by omega,r⟩⟩
 ·obtain ⟨h1,h2⟩:=ap hk hT (hO x hx) (by decide);exact ⟨h1,h2.imp id fun ⟨g,cap,cur,hv,hg,r⟩=>⟨g,cap,cur,hv,by omega,r⟩⟩
def Dl (v:Value):Value:=.agg #[.int .i64 11,.int .i64 0,.int .i64 0,.string ⟨#[]⟩,.int .u64 0,v,.int .i64 0]
theorem iC.cut {w:World}{b o n c:Nat}{K:List (aV × Value)}(h:iC w (Option.some ⟨b,o,none⟩) n c K) {k m:Nat}(hk:k+m≤n):iC w (Option.some ⟨b,o+k*4,none⟩) m (c - k) ((K.drop k).take m):=by
 obtain ⟨h1,h2,h3,h4,h5⟩:=h;refine ⟨by simp;omega,by omega,by omega,fun i hi=>⟨b,o+k*4,rfl,?_⟩,fun x hx=>h5 x (List.mem_of_mem_drop (List.mem_of_mem_take hx))⟩;simp at hi
 obtain ⟨b',o',e,hx⟩:=h4 (k+i) (by omega);cases e
 rw [show o+k*4+i*4=o+(k+i)*4 from by omega];simpa using hx
theorem Ak {w:World}{b:Nat}{v:Value}{p:Option Addr}{t:Tr}{mb:Nat}{K:List (aV × Value)}{G:Gr}(h:GA w b v p t mb K G) (f m:Int) (hb:f < 1∨m < 1) :
 Calls Tryz.prog 117 #[.pointer (some ⟨b,0,none⟩),.int .i64 f,.int .i64 m] w fun e w'=>e=.returned (sH ⟨5,0,[],0⟩)∧aa [] w w':=by
 have hK1:aa [] w (iz w):=(aa.refl _ _).alloc _;have hG1:=h.kept hK1;have HB:Hid ((iz w).heap[w.heap.size]?=some (.cells gx 39 (0,0))):=heap_alloc_new w _;have cM:=jh hG1;clear hG1 h;unfold iz at *;by_cases hf:f < 1
 ·go_enter Tryz.func117,Tryz.ntmps117;(go_wp2_with fail);refine cM.mono ?_;rintro _ _ ⟨rfl,rfl⟩;(go_wp2_with fail);refine bodyPost_ret (aI (by rfl) _ (by rfl) (heap_alloc_new w _) rfl) rfl ?_;exact ⟨rfl,(aa.refl _ _).alloc _⟩
 ·have hm:m < 1:=by omega
  go_enter Tryz.func117,Tryz.ntmps117;(go_wp2_with fail);refine cM.mono ?_;rintro _ _ ⟨rfl,rfl⟩;(go_wp2_with fail);refine bodyPost_ret (aI (by rfl) _ (by rfl) (heap_alloc_new w _) rfl) rfl ?_;exact ⟨rfl,(aa.refl _ _).alloc _⟩
theorem DU {P:Program}(ts:Array TypeId) (t:TypeId) (W:World) (x y z:Int):(Builtin.min_ ts t #[.int .i64 x,.int .i64 y,.int .i64 z]).run P W=.ok (.int .i64 (min (min x y) z)) W:=by
 have e:∀ a b:Int,(if b < a then b else a)=min a b:=fun a b=>by omega
 simp [Builtin.min_,Builtin.min2,e]
theorem Cl {w:World}{b:Nat}{v:Value}{p:Option Addr}{t:Tr}{mb:Nat}{K:List (aV × Value)}{G:Gr}(h:GA w b v p t mb K G) (hW:Wf G) (hl:G.cs.length≤10000) (f m:Int) (hf:1≤f) (hm:1≤m) (hf2:f < 2 ^ 63) (hm2:m < 2 ^ 63) :
 Calls Tryz.prog 117 #[.pointer (some ⟨b,0,none⟩),.int .i64 f,.int .i64 m] w fun e w'=>∃ v' K',e=.returned (Dl v')∧K'.map Prod.fst=gk G.cs f m∧bk w.heap.size w' v' K'∧gK w.heap.size w' K'∧aa [] w w':=by
 have hK1:aa [] w (iz w):=(aa.refl _ _).alloc _;have hG1:=h.kept hK1;have HB:Hid ((iz w).heap[w.heap.size]?=some (.cells gx 39 (0,0))):=heap_alloc_new w _;have cM:=jh hG1;have cH:=fh hG1;have hkl:K.length=G.cs.length:=by rw [← h.com];simp
 obtain ⟨ao,c,hv,hs,hnil⟩:=h.row.sl h.own;unfold iz at *;have hfa:¬ f < 1:=by omega
 have hma:¬ m < 1:=by omega
 have q1:IntKind.i64.wrap (f - 1)=f - 1:=IntWalk.i64_in _ (by omega);have HKl:Hid (K.length=G.cs.length):=hkl;have HG1:=hG1;obtain ⟨gl,hgl⟩:∃ gl:Nat,gl=G.cs.length:=⟨_,rfl⟩;rw [hkl,← hgl] at hs hv;rw [← hgl] at cH hl;obtain ⟨fi,hfi⟩:∃ fi:Nat,min (f - 1) (gl:Int)=(fi:Int):=⟨(min (f - 1) (gl:Int)).toNat,by omega⟩;obtain ⟨k,hk⟩:∃ k:Nat,min (min m 32) ((gl:Int) - fi)=(k:Int):=⟨(min (min m 32) ((gl:Int) - fi)).toNat,by omega⟩;have hk2:min m (min 32 ((gl:Int) - fi))=(k:Int):=by omega
 have hfk:fi+k≤gl:=by omega
 have HL:Hid (gk G.cs f m=(G.cs.drop fi).take k):=by
  show _=_;unfold gk;by_cases hc:f - 1≤gl
  ·have h1:(f - 1).toNat=fi:=by omega
   rw [h1];by_cases hd:(min m 32).toNat≤gl - fi
   ·rw [show (min m 32).toNat=k from by omega]
   ·rw [List.take_of_length_le (by simp;omega),List.take_of_length_le (by simp;omega)]
  ·rw [List.drop_eq_nil_of_le (by omega),List.drop_eq_nil_of_le (by omega)];simp
 have q2:IntKind.i64.wrap ((gl:Int) - fi)=(gl:Int) - fi:=IntWalk.i64_in _ (by omega);have q3:IntKind.i64.wrap ((fi:Int)+k)=(fi:Int)+k:=IntWalk.i64_in _ (by omega);have hsK:=hs.kept hK1
 have hsm:∀ x∈K,x.1.c.length≤1000000:=fun x hx=>by
  have h1:=hW.com x.1 (by rw [← h.com];exact List.mem_map_of_mem hx);have:=h1.1.2.1;omega
 have hcom:=h.com
 have hao:ao=none∨∃ g,ao=some ⟨g,0,none⟩:=by
  obtain ⟨_,h2⟩:=h.row;rw [hv] at h2;rcases h2 with ⟨h2,_⟩ | ⟨g,cap,cur,h2,_⟩
  ·cases h2;exact .inl rfl
  ·cases h2;exact .inr ⟨g,rfl⟩
 subst hv;obtain ⟨e0,e1,e2⟩:=bC HG1.at_;have hcap:=hs.2.1;have hcm:=hs.2.2.1;unfold maxLen at hcm;have hmin3:∀ (ts:Array TypeId) (t:TypeId) (W:World),(Builtin.min_ ts t #[.int .i64 m,.int .i64 32,.int .i64 ((gl:Int) - fi)]).run Tryz.prog W=.ok (.int .i64 (k:Int)) W:=fun ts t W=>by rw [DU,hk]
 have b1:(fi:Int)≤(fi:Int)+k:=by omega
 have b2:(fi:Int)+k≤(c:Int):=by omega
 have b3:(fi:Int)+k≤(gl:Int):=by omega
 have b4:(0:Int)≤(fi:Int)+k:=by omega
 have HFin:Hid (∀ ao2 c2,(ao2=none→c2=0)→iC (w.alloc (.cells #[.int .i64 0,.int .i64 0,.int .i64 0,.string ⟨#[]⟩,.int .u64 0,.slice none 0 0,.int .i64 0] 39)) ao2 k c2 ((K.drop fi).take k)→Calls Tryz.prog 107 #[.slice ao2 k c2] (w.alloc (.cells #[.int .i64 0,.int .i64 0,.int .i64 0,.string ⟨#[]⟩,.int .u64 0,.slice none 0 0,.int .i64 0] 39)) fun e w'=>zE (w.alloc (.cells #[.int .i64 0,.int .i64 0,.int .i64 0,.string ⟨#[]⟩,.int .u64 0,.slice none 0 0,.int .i64 0] 39)) ((G.cs.drop fi).take k) e w'):=fun ao2 c2 hz hs2=>by
  have:=lj _ ao2 k c2 _ hs2 hz (by omega) (fun x hx=>hsm x (List.mem_of_mem_drop (List.mem_of_mem_take hx)))
  rw [List.map_take,List.map_drop,hcom] at this;exact this
 have HSK:Hid (iC (w.alloc (.cells #[.int .i64 0,.int .i64 0,.int .i64 0,.string ⟨#[]⟩,.int .u64 0,.slice none 0 0,.int .i64 0] 39)) ao gl c K):=hsK;clear hkl hgl hs hsK hG1 HG1 h hcom hsm hf hm hf2 hm2 hk hk2;by_cases hcf:c=fi
 ·have hk0:k=0:=by omega
  subst hk0;have cK:=HFin.out ao 0 (fun _=>rfl) ⟨by simp,Nat.le_refl _,Nat.zero_le _,fun i hi=>by simp at hi,fun x hx=>by simp at hx⟩;go_enter Tryz.func117,Tryz.ntmps117;(go_wp2_with fail);refine cM.mono ?_;rintro _ _ ⟨rfl,rfl⟩;(go_wp2_with fail);refine cH.mono ?_;rintro _ _ ⟨rfl,rfl⟩;(go_wp2_with fail);refine cH.mono ?_;rintro _ _ ⟨rfl,rfl⟩;(go_wp2_with fail);refine cK.mono ?_;rintro _ w1 ⟨v1,K1,rfl,h1,h2,h3,h4⟩;obtain ⟨ao1,n1,c1,rfl⟩:∃ ao1 n1 c1,v1=.slice ao1 n1 c1:=by obtain ⟨a,c',h,_⟩:=h2.sl h3;exact ⟨_,_,_,h⟩
  have HR1:Hid (bk (w.heap.size+1) w1 (.slice ao1 n1 c1) K1):=by have:=h2;rw [World.size_alloc] at this;exact this
  have HO1:Hid (gK (w.heap.size+1) w1 K1):=by have:=h3;rw [World.size_alloc] at this;exact this
  have hB1:=h4.at HB.out (by simp);have HE:=uR hB1 (hK1.trans h4 (by simp)) HR1.out HO1.out (u0:=.int .i64 11) (u1:=.int .i64 0) (u2:=.int .i64 0) (u3:=.string ⟨#[]⟩) (u4:=.int .u64 0) (u5:=.slice ao1 n1 c1) (u6:=.int .i64 0);obtain ⟨r0,r1,r2,r3,r4,r5,r6⟩:=bL hB1;have f0:=ai hB1 0;have f1:=ai hB1 1;have f2:=ai hB1 2;have f3:=ai hB1 3;have f4:=ai hB1 4;have f5:=ai hB1 5;have f6:=ai hB1 6;have HB1:Hid (w1.heap[w.heap.size]?=some (.cells gx 39 (0,0))):=hB1;have H1:Hid (K1.map Prod.fst=gk G.cs f m):=by rw [HL.out];exact h1
  clear hB1 h1 h2 h3 h4 e0 e1 e2;(go_wp2_with fail);refine bodyPost_ret (aI (by rfl) _ (by rfl) (ff HB1.out _ _ _ _ _ _ _) rfl) rfl ?_;exact ⟨_,K1,rfl,H1.out,HE.out⟩
 ·rcases hao with rfl | ⟨g,rfl⟩
  ·have:=hnil rfl;omega
  have cK:=HFin.out _ _ (by simp) (HSK.out.cut hfk);rw [Nat.zero_add] at cK;clear hnil;go_enter Tryz.func117,Tryz.ntmps117;(go_wp2_with fail);refine cM.mono ?_;rintro _ _ ⟨rfl,rfl⟩;(go_wp2_with fail);refine cH.mono ?_;rintro _ _ ⟨rfl,rfl⟩;(go_wp2_with fail);refine cH.mono ?_;rintro _ _ ⟨rfl,rfl⟩;(go_wp2_with fail);refine cK.mono ?_;rintro _ w1 ⟨v1,K1,rfl,h1,h2,h3,h4⟩;obtain ⟨ao1,n1,c1,rfl⟩:∃ ao1 n1 c1,v1=.slice ao1 n1 c1:=by obtain ⟨a,c',h,_⟩:=h2.sl h3;exact ⟨_,_,_,h⟩
  have HR1:Hid (bk (w.heap.size+1) w1 (.slice ao1 n1 c1) K1):=by have:=h2;rw [World.size_alloc] at this;exact this
  have HO1:Hid (gK (w.heap.size+1) w1 K1):=by have:=h3;rw [World.size_alloc] at this;exact this
  have hB1:=h4.at HB.out (by simp);have HE:=uR hB1 (hK1.trans h4 (by simp)) HR1.out HO1.out (u0:=.int .i64 11) (u1:=.int .i64 0) (u2:=.int .i64 0) (u3:=.string ⟨#[]⟩) (u4:=.int .u64 0) (u5:=.slice ao1 n1 c1) (u6:=.int .i64 0);obtain ⟨r0,r1,r2,r3,r4,r5,r6⟩:=bL hB1;have f0:=ai hB1 0;have f1:=ai hB1 1;have f2:=ai hB1 2;have f3:=ai hB1 3;have f4:=ai hB1 4;have f5:=ai hB1 5;have f6:=ai hB1 6;have HB1:Hid (w1.heap[w.heap.size]?=some (.cells gx 39 (0,0))):=hB1;have H1:Hid (K1.map Prod.fst=gk G.cs f m):=by rw [HL.out];exact h1
  clear hB1 h1 h2 h3 h4 e0 e1 e2;(go_wp2_with fail);refine bodyPost_ret (aI (by rfl) _ (by rfl) (ff HB1.out _ _ _ _ _ _ _) rfl) rfl ?_;exact ⟨_,K1,rfl,H1.out,HE.out⟩
end Go.Proofs.YtgpnlidnbldiiaaGreat
