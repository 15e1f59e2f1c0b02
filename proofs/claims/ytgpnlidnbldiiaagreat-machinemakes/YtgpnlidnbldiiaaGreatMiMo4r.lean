/-
  The document's graph inside a machine: Land.
-/
import Derived.Test.YtgpnlidnbldiiaaGreatQ2r
import Derived.Test.YtgpnlidnbldiiaaGreatW8r
import Derived.Test.YtgpnlidnbldiiaaGreatM11r
namespace Go.Proofs.YtgpnlidnbldiiaaGreat
open Go.RowKit
variable {xm : Value × Value × Value}
set_option linter.unusedSimpArgs false in
set_option maxHeartbeats 16000000 in
set_option maxRecDepth 100000 in
theorem se {w:World}{b:Nat}{v vL vR:Value}{K:List (aV × Value)}{G:Gr}(h:iw w b xm v vL vR K G) (hnl:gQ G.ls vL) (hW:Wf G) (hl:G.cs.length≤10000)
 (base:Int) (n:List UInt8) (hn:n.length≤1000000) (ao:Option Addr) (m c:Nat) (L:List Ch) (hS:di w ao m c L) (hm:m≤1000000) (hp:∀ x∈L,x.p.length≤1000000000) :
 Calls Tryz.prog 110 #[.pointer (some ⟨b,1,none⟩),.int .i64 base,.string (ak n),.slice ao m c] w fun e w'=>e=.returned (sH (bi G base n L))∧pH w b xm (bf b v) (bB G base n L) w':=by
 have hK1:aa [] w (iz w):=(aa.refl _ _).alloc _;have HB:Hid ((iz w).heap[w.heap.size]?=some (.cells #[.int .i64 0,.int .i64 0,.int .i64 0,.string ⟨#[]⟩,.int .u64 0,.slice none 0 0,.int .i64 0] 39 (0,0))):=heap_alloc_new w _;have cC:=lE (iz w) ao m c L (hS.kept hK1 (by simp)) hp;have cN:=fun W=>jG n W (by omega);have HLt:Hid (∀ k∈bf b v,k < w.heap.size):=h.lt;have hkl:K.length=G.cs.length:=by rw [← h.com];simp
 have HM:Hid (iw w b xm v vL vR K G):=h;have HNl:Hid (gQ G.ls vL):=hnl;have HS:Hid (di w ao m c L):=hS;have HP:Hid (∀ x∈L,x.p.length≤1000000000):=hp;have HW:Hid (Wf G):=hW;obtain ⟨aoC,cpC,hvC,_,_⟩:=h.row.sl h.own;obtain ⟨aoL,cpL,hvL,hsL⟩:=h.lvs.sl;rw [hkl] at hvC;obtain ⟨gl,hgl⟩:∃ gl:Nat,gl=G.cs.length:=⟨_,rfl⟩;have HGl:Hid (gl=G.cs.length):=hgl;obtain ⟨nl,hnll⟩:∃ nl:Nat,nl=G.ls.length:=⟨_,rfl⟩;have HN2:Hid (nl=G.ls.length):=hnll;rw [← hgl] at hvC hl;rw [← hnll] at hvL hsL;have HSL:Hid (uk w aoL nl cpL G.ls):=hsL;have HVL:Hid (vL=.slice aoL nl cpL):=hvL;have HVC:Hid (v=.slice aoC gl cpC):=hvC;have HK1:Hid (aa [] w (iz w)):=hK1;clear h hnl hS hp hW hsL hkl hgl hnll hvL hvC hK1;unfold iz at *;go_enter Tryz.func110,Tryz.ntmps110;go_upto_region 1 with fail
 go_cut [30] from 15 to 30 (fun sv wx=>sv=.bool (bY base n L)∧aa [] (w.alloc (.cells #[.int .i64 0,.int .i64 0,.int .i64 0,.string ⟨#[]⟩,.int .u64 0,.slice none 0 0,.int .i64 0] 39)) wx)
 case first =>
  by_cases hz:gy L=0
  ·by_cases h0:n=[]
   ·by_cases hlt:base < 0
    ·have HE:Hid (bY base n L=true):=by simp [bY,hlt];exact trivial
     rw [hz] at cC;clear hz;subst h0;have hE:=dN;(go_wp2_with fail);refine cC.mono ?_;rintro _ w1 ⟨rfl,hK⟩;(go_wp2_with fail);go_meet
     exact ⟨by rw [HE.out],hK⟩
    ·have HE:Hid (bY base n L=false):=by show _=_;simp [bY,hlt,hz,h0]
     rw [hz] at cC;clear hz;subst h0;have hE:=dN;(go_wp2_with fail);refine cC.mono ?_;rintro _ w1 ⟨rfl,hK⟩;(go_wp2_with fail);go_meet
     exact ⟨by rw [HE.out,decide_eq_false (by omega)],hK⟩
   ·have hE:=ez h0;cases hw:bu false n with
    | false =>
      have HE:Hid (bY base n L=true):=by show _=_;simp [bY,hw,h0]
      rw [hz] at cC;rw [hw] at cN;clear hz;(go_wp2_with fail);refine cC.mono ?_;rintro _ w1 ⟨rfl,hK⟩;(go_wp2_with fail);refine (cN _).mono ?_;rintro _ W ⟨rfl,hW0⟩;obtain rfl:=hW0.symm;(go_wp2_with fail);go_meet
      exact ⟨by rw [HE.out],hK⟩
    | true =>
      rw [hz] at cC;rw [hw] at cN;by_cases hlt:base < 0
      ·have HE:Hid (bY base n L=true):=by show _=_;simp [bY,hlt]
       clear hz;(go_wp2_with fail);refine cC.mono ?_;rintro _ w1 ⟨rfl,hK⟩;(go_wp2_with fail);refine (cN _).mono ?_;rintro _ W ⟨rfl,hW0⟩;obtain rfl:=hW0.symm;(go_wp2_with fail);go_meet
       exact ⟨by rw [HE.out],hK⟩
      ·have HE:Hid (bY base n L=false):=by show _=_;simp [bY,hlt,hz,hw]
       clear hz;(go_wp2_with fail);refine cC.mono ?_;rintro _ w1 ⟨rfl,hK⟩;(go_wp2_with fail);refine (cN _).mono ?_;rintro _ W ⟨rfl,hW0⟩;obtain rfl:=hW0.symm;(go_wp2_with fail);go_meet
       exact ⟨by rw [HE.out,decide_eq_false (by omega)],hK⟩
  ·have HE:Hid (bY base n L=true):=by show _=_;simp [bY,hz]
   have hz1:gy L=1:=by
    by_cases hk:cQ L
    ·exact absurd (ia hk) hz
    ·exact dP hk
   rw [hz1] at cC;clear hz hz1;(go_wp2_with fail);refine cC.mono ?_;rintro _ w1 ⟨rfl,hK⟩;(go_wp2_with fail);go_meet
   exact ⟨by rw [HE.out],hK⟩
 case rest =>
  obtain ⟨rfl,hKc⟩:=hcut;have hBc:=hKc.at HB.out (by simp);have HKw:Hid (aa [] w wc):=HK1.out.trans hKc (by simp);have hMc:=HM.out.kept HKw.out;obtain ⟨c0,c1,c2⟩:=fM hMc.at_;rw [HVC.out] at c0;rw [HVL.out] at c1;have HMc:Hid (iw wc b xm v vL vR K G):=hMc;have HBc:Hid (wc.heap[w.heap.size]?=some (.cells #[.int .i64 0,.int .i64 0,.int .i64 0,.string ⟨#[]⟩,.int .u64 0,.slice none 0 0,.int .i64 0] 39 (0,0))):=hBc;clear cC cN hKc hMc;cases hbad:bY base n L with
  | true =>
    obtain ⟨hv,hg⟩:=bV (G:=G) (qV hbad);have HV:Hid (bi G base n L=⟨5,0,[],0⟩):=hv;have HGe:Hid (bB G base n L=G):=hg;obtain ⟨r0,r1,r2,r3,r4,r5,r6⟩:=bL hBc;have f0:=ai hBc 0;have f1:=ai hBc 1;have f2:=ai hBc 2;have f3:=ai hBc 3;have f4:=ai hBc 4;have f5:=ai hBc 5;have f6:=ai hBc 6;clear hv hg hbad hBc;(go_wp2_with fail);refine bodyPost_ret (aI (by rfl) _ (by rfl) (ff HBc.out _ _ _ _ _ _ _) rfl) rfl ?_;rw [HV.out,HGe.out];exact ⟨rfl,fZ HMc.out HNl.out HLt.out (fun k hk=>.inl hk) HBc.out (HKw.out.mono (by simp)) (aQ (aa.refl _ _) (.inl (by simp)) _ _ _ _ _ _ _)⟩
  | false =>
    obtain ⟨hchk,hnm,hb0⟩:=fl hbad;by_cases hah:(gl:Int) < base
    ·obtain ⟨hv,hg⟩:=bV (G:=G) (nf hbad (by rw [← HGl.out];exact hah));have HV:Hid (bi G base n L=⟨4,gl,[],0⟩):=by rw [HGl.out];exact hv
     have HGe:Hid (bB G base n L=G):=hg;obtain ⟨r0,r1,r2,r3,r4,r5,r6⟩:=bL hBc;have f0:=ai hBc 0;have f1:=ai hBc 1;have f2:=ai hBc 2;have f3:=ai hBc 3;have f4:=ai hBc 4;have f5:=ai hBc 5;have f6:=ai hBc 6;clear hv hg hbad hBc hchk;(go_wp2_with fail);refine bodyPost_ret (aI (by rfl) _ (by rfl) (ff HBc.out _ _ _ _ _ _ _) rfl) rfl ?_;rw [HV.out,HGe.out];exact ⟨rfl,fZ HMc.out HNl.out HLt.out (fun k hk=>.inl hk) HBc.out (HKw.out.mono (by simp)) (aQ (aa.refl _ _) (.inl (by simp)) _ _ _ _ _ _ _)⟩
    ·have hsc:=eD.2 hchk;have hsp:=fC hsc;have hs16:(an L).length≤16:=hsc.2.1;have HPs:Hid (∀ x∈an L,x.p.length≤64):=hsp;have HAh:Hid (¬ (G.cs.length:Int) < base):=by rw [← HGl.out];exact hah
     have HBad:Hid (bY base n L=false):=hbad;have hah':¬ (gl:Int) < base:=hah;have cS:=ku wc ao m c L (HS.out.kept HKw.out (by simp)) hm (fun x hx=>by have:=HP.out x hx;omega);clear hbad hBc hchk hsc hsp hnm hah;(go_wp2_with fail);refine cS.mono ?_;rintro _ w2 ⟨vS,rfl,hOs,hKs⟩;obtain ⟨aoS,nS,cpS,rfl,hsS,_⟩:=hOs.chV;have HKw2:Hid (aa [] w w2):=HKw.out.trans hKs (by simp);have HM2:Hid (iw w2 b xm v vL vR K G):=HMc.out.kept hKs;have HB2:Hid (w2.heap[w.heap.size]?=some (.cells #[.int .i64 0,.int .i64 0,.int .i64 0,.string ⟨#[]⟩,.int .u64 0,.slice none 0 0,.int .i64 0] 39 (0,0))):=hKs.at HBc.out (by simp);have HsS:Hid (di w2 aoS nS cpS (an L)):=hsS;have HOs:Hid (aP 0 w2 (.slice aoS nS cpS) (an L)):=hOs.mono (Nat.zero_le _);have hnS:=hsS.1;have hcS:=hsS.2.1;have hmS:=hsS.2.2.1;unfold maxLen at hmS;have HNS:Hid ((an L).length=nS):=hnS;obtain ⟨R,hR⟩:∃ R,R=bW G.ls base (an L):=⟨_,rfl⟩;have HR:Hid (bW G.ls base (an L)=R):=hR.symm;rw [hnS] at hs16;clear cS hOs hKs hsS hnS hR c0 c1 c2 HMc HBc HKw;(go_wp2_with fail);go_loopw [10] (fun kv wr=>CZ w2 G.ls base (an L) R kv wr) (fun kv _=>nS - (intOf kv).toNat)
     case atStart=>exact ⟨0,rfl,Nat.zero_le _,aa.refl _ _,HR.out⟩
     case round =>
      obtain ⟨k,rfl,hk,HK,HC⟩:=hrel;have hMr:=HM2.out.kept HK.out;obtain ⟨c0,c1,c2⟩:=fM hMr.at_;rw [HVC.out] at c0;rw [HVL.out] at c1;have hBr:=HK.out.at HB2.out (by simp);have HMr:Hid (iw wr b xm v vL vR K G):=hMr;have HBr:Hid (wr.heap[w.heap.size]?=some (.cells #[.int .i64 0,.int .i64 0,.int .i64 0,.string ⟨#[]⟩,.int .u64 0,.slice none 0 0,.int .i64 0] 39 (0,0))):=hBr;clear hMr hBr;by_cases hlt:k < nS
      ·have hlt':(k:Int) < nS:=by omega
       have hkc:k≤cpS:=by omega
       have hks:k < (an L).length:=by rw [HNS.out];exact hlt
       obtain ⟨g,o,rfl,hx⟩:=HsS.out.2.2.2 k hks;obtain ⟨d0,d1,d2⟩:=hx.kept HK.out (by simp);obtain ⟨x,hxe⟩:∃ x,x=(an L)[k]:=⟨_,rfl⟩;have HX:Hid ((an L).drop k=x :: (an L).drop (k+1)):=by rw [hxe];exact List.drop_eq_getElem_cons hks
       have hxp:x.p.length≤64:=by rw [hxe];exact HPs.out _ (List.getElem_mem hks)
       rw [← hxe] at d0 d1 d2;have D0:Hid (w2.cell? ⟨g,o+k*3,none⟩=some (.string (ak x.p))):=by rw [hxe];exact hx.c0
       have cG:=fun W (h:aa [] wr W)=>kR W aoL nl cpL G.ls (((HSL.out.kept HKw2.out).kept HK.out).kept h) HW.out.srt (fun y hy=>by have:=HW.out.path y hy;omega) x.p (by omega);have hfind:=show ex x.p G.ls=G.ls.find? (fun y=>decide (x.p=y.p)) from rfl
       obtain ⟨F,hF⟩:∃ F,F=ex x.p G.ls:=⟨_,rfl⟩;rw [← hfind,← hF] at cG;obtain ⟨y0,y1,y2,y3,y4,hv⟩:=kV F;have HV:Hid (eW F=.tuple #[.agg #[.string y0,.int .u64 y1,.int .i64 y2,.bool y3],.bool y4]):=hv;have HF:Hid (F=ex x.p G.ls):=hF;rw [hv] at cG;have hB1:w2.heap.size≤wr.heap.size:=HK.out.size;have hbw:b < wr.heap.size:=aq HMr.out.at_
       have hgw:g < wr.heap.size:=by
        by_cases hl:g < wr.heap.size
        ·exact hl
        ·unfold World.cell? at d0;rw [show wr.heap[(⟨g,o+k*3,none⟩:Addr).block]?=none from Array.getElem?_eq_none (by show wr.heap.size≤g;omega)] at d0;simp at d0
       clear hx hxe hfind hF hv;go_upto_region 9 with fail
       go_cut [11,12] from 47 to 80 (fun s11 s12 wx=>∃ B:Nat,s11=.pointer (some ⟨B,0,none⟩)∧s12=.bool y4∧wx.cell? ⟨B,2,none⟩=some (.int .i64 y2)∧Hid (aa [] w2 wx)∧Hid (w2.heap.size≤B))
       case first =>
        go_region_with (first
         | (go_at_call 79;refine (cG _ ?_).mono ?_;exact ((aa.refl [] _).alloc _).drew;rintro e w1 ⟨rfl,hKb⟩;have hKb1:aa [] wr w1:=(((aa.refl [] _).alloc _).drew).trans hKb (by simp);obtain ⟨m0,m1,m2,m3,n0,n1,n2,n3,hB0⟩:=oF hKb)
         | (go_at_call 79;refine (cG _ ?_).mono ?_;exact (aa.refl [] _).drew;rintro e w1 ⟨rfl,hKb⟩;have hKb1:aa [] wr w1:=((aa.refl [] _).drew).trans hKb (by simp)))
        all_goals go_wp2_with fail
        all_goals go_meet
        all_goals have hKw:aa [] w2 w1:=HK.out.trans hKb1 (by simp)
        all_goals first
         | exact ⟨_,rfl,rfl,by simp,hKw.alloc _,hKw.size⟩
         | exact ⟨_,rfl,rfl,(br (zC hB0)).2.2.1,((((hKw.setCell (.inr hB1) _).setCell (.inr hB1) _).setCell (.inr hB1) _).setCell (.inr hB1) _),hB1⟩
       case rest =>
        obtain ⟨B,rfl,rfl,r2b,HK2,HBsz⟩:=hcut
        have HG:Hid (g≠w.heap.size):=by
         intro e;obtain ⟨c2',h2'⟩:=ar HOs.out (k:=g) rfl;rw [e,HB2.out] at h2';cases h2'
        have HBn:Hid (B≠w.heap.size):=by have h1:=HBsz.out;have h2:=g8 HB2.out;intro e;omega
        clear HK c0 c1 c2 d0 d1 d2 cG HMr HBr;cases F with
        | none =>
          obtain ⟨rfl,rfl⟩:y2=0∧y4=false:=by have:=HV.out;simp [eW] at this;obtain ⟨⟨_,_,h2,_⟩,h4⟩:=this;exact ⟨by first | exact h2 | exact h2.symm,by first | exact h4 | exact h4.symm⟩
          have HC2:Hid (bW G.ls base ((an L).drop (k+1))=R):=by
           have:=HC.out;rw [HX.out,jD HF.out.symm] at this;exact this
          (go_wp2_with fail);go_roundw
          case rel=>exact ⟨k+1,by go_num,by rw [HNS.out];omega,HK2,HC2⟩
          case measure=>simp [intOf];omega
        | some y =>
          obtain ⟨rfl,rfl,rfl⟩:y0=ak y.p∧y2=y.r∧y4=true:=by have:=HV.out;simp [eW,jm] at this;exact ⟨this.1.1.symm,this.1.2.2.1.symm,by first | exact this.2 | exact this.2.symm⟩
          by_cases hlt2:base < y.r
          ·have he:dL G base n L=some ⟨3,y.r,x.p,0⟩:=by
            have h1:=HC.out;rw [HX.out,lf HF.out.symm hlt2] at h1;rw [fj HBad.out (by have:=HAh.out;omega),HR.out,← h1];rfl
           obtain ⟨hv,hg⟩:=bV he;have HV2:Hid (bi G base n L=⟨3,y.r,x.p,0⟩):=hv;have HGe:Hid (bB G base n L=G):=hg;have hBq:=HK2.out.at HB2.out (by simp);have x0:=HK2.out.cell D0.out (by simp);have HNx:=uY hBq (.int .i64 3) (.int .i64 0) (.int .i64 y.r) (.string (ak x.p)) (.int .u64 0) (.slice none 0 0) (.int .i64 0);have HS0:Hid ((eg wc w.heap.size (.int .i64 3) (.int .i64 0) (.int .i64 y.r) (.string (ak x.p)) (.int .u64 0) (.slice none 0 0) (.int .i64 0)).drew.cell? ⟨g,o+k*3,none⟩=some (.string (ak x.p))):=kq HG.out x0;have HS1:Hid ((eg wc w.heap.size (.int .i64 3) (.int .i64 0) (.int .i64 y.r) (.string (ak x.p)) (.int .u64 0) (.slice none 0 0) (.int .i64 0)).drew.cell? ⟨B,2,none⟩=some (.int .i64 y.r)):=kq HBn.out r2b
           have HEnd:Hid (pH w b xm (bf b v) G (eg wc w.heap.size (.int .i64 3) (.int .i64 0) (.int .i64 y.r) (.string (ak x.p)) (.int .u64 0) (.slice none 0 0) (.int .i64 0)).drew) :=
            fZ (HM2.out.kept HK2.out) HNl.out HLt.out (fun k hk=>.inl hk) hBq ((HKw2.out.trans HK2.out (by simp)).mono (by simp)) (aQ (aa.refl _ _) (.inl (by simp)) _ _ _ _ _ _ _).drew
           obtain ⟨r0,r1,r2,r3,r4,r5,r6⟩:=bL hBq;have f0:=ai hBq 0;have f1:=ai hBq 1;have f2:=ai hBq 2;have f3:=ai hBq 3;have f4:=ai hBq 4;have f5:=ai hBq 5;have f6:=ai hBq 6;clear he hv hg hBq;(go_wp2_with fail);refine wp_region_held_drew (S:=fun w'=>w'.cell? ⟨g,o+k*3,none⟩=some (.string (ak x.p))∧w'.cell? ⟨B,2,none⟩=some (.int .i64 y.r)) (by kernel_rfl) ⟨x0,r2b⟩ (fun hHeld=>?_);refine tk 0 ?_ rfl (by kernel_rfl) (fun _ _ _ h=>h) (Or.inl ⟨by rfl,?_⟩) hHeld ?_;rotate_left
           ·intro w9 hSw;(try dsimp only at hSw);go_simp;(try with_reducible rfl)
           (try simp only [sT,Act.put]);refine tk 1 ?_ rfl (by kernel_rfl) (fun _ _ _ h=>h) (Or.inl ⟨by rfl,?_⟩) hHeld ?_;rotate_left
           ·intro w9 hSw;(try dsimp only at hSw);go_simp;(try with_reducible rfl)
           (try simp only [sT,Act.put]);refine tk 2 ?_ rfl (by kernel_rfl) (fun _ _ _ h=>h) (Or.inl ⟨by rfl,?_⟩) hHeld ?_;rotate_left
           ·intro w9 hSw;(try dsimp only at hSw);go_simp;(try with_reducible rfl)
           (try simp only [sT,Act.put]);refine tk 3 ?_ rfl (by kernel_rfl) (fun _ _ _ h=>h) (Or.inl ⟨by rfl,?_⟩) hHeld ?_;rotate_left
           ·intro w9 hSw;(try dsimp only at hSw);go_simp;(try with_reducible rfl)
           (try simp only [sT,Act.put]);refine tk 4 ?_ rfl (by kernel_rfl) (fun _ _ _ h=>h) (Or.inl ⟨by rfl,?_⟩) hHeld ?_;rotate_left
           ·intro w9 hSw;(try dsimp only at hSw);go_simp;(try with_reducible rfl)
           (try simp only [sT,Act.put]);refine tk 5 ?_ rfl (by kernel_rfl) (fun _ _ _ h=>h) (Or.inl ⟨by rfl,?_⟩) hHeld ?_;rotate_left
           ·intro w9 hSw;(try dsimp only at hSw);go_simp;(try with_reducible rfl)
           (try simp only [sT,Act.put]);refine tk 6 ?_ rfl (by kernel_rfl) (fun _ _ _ h=>h) (Or.inl ⟨by rfl,?_⟩) hHeld ?_;rotate_left
           ·intro w9 hSw;(try dsimp only at hSw);go_simp;(try with_reducible rfl)
           (try simp only [sT,Act.put]);refine tk 7 ?_ rfl (by kernel_rfl) (fun _ _ _ h=>h) (Or.inl ⟨by rfl,?_⟩) hHeld ?_;rotate_left
           ·intro w9 hSw;(try dsimp only at hSw);go_simp;(try with_reducible rfl)
           (try simp only [sT,Act.put]);refine aH 8 (by kernel_rfl) rfl (fun K0 hK0=>?_);go_simp;refine hK0.out _ _ ?_ (fun hHeld=>?_)
           ·exact And.intro HS0.out HS1.out
           refine wpAnyH_done (by kernel_rfl) ?_ _;(go_wp2_with fail);refine bodyPost_ret (aI (by rfl) _ (by rfl) HNx.out rfl) rfl ?_;rw [HV2.out,HGe.out];exact ⟨rfl,HEnd.out⟩
          ·have HC2:Hid (bW G.ls base ((an L).drop (k+1))=R):=by
            have:=HC.out;rw [HX.out,k7 HF.out.symm hlt2] at this;exact this
           (go_wp2_with fail);go_roundw
           case rel=>exact ⟨k+1,by go_num,by rw [HNS.out];omega,HK2,HC2⟩
           case measure=>simp [intOf];omega
      ·have hlt':¬ (k:Int) < nS:=by omega
       have hRn:R=none:=by have h1:=HC.out;rw [List.drop_eq_nil_of_le (by rw [HNS.out];omega)] at h1;exact h1.symm
       have he:dL G base n L=none:=by rw [fj HBad.out (by have:=HAh.out;omega),HR.out,hRn];rfl
       obtain ⟨hv,hg⟩:=bD he;have HV2:Hid (bi G base n L=⟨2,(gl:Int)+1,[],0⟩):=by rw [HGl.out];exact hv
       have HGe:Hid (bB G base n L=da G ⟨(gl:Int)+1,base,n,an L⟩):=by rw [HGl.out];exact hg
       have HOr:Hid (aP 0 wr (.slice aoS nS cpS) (an L)):=HOs.out.kept HK.out;have HKr:Hid (aa [] w wr):=HKw2.out.trans HK.out (by simp);have hvC:=HVC.out;subst hvC;have HR2:=fun ob=>World.ownsRow.alloc HMr.out.row ob;have hklen:K.length≤1000000000:=by have h1:=congrArg List.length HMr.out.com;simp at h1;have:=HGl.out;omega
       have q1:IntKind.i64.wrap ((gl:Int)+1)=(gl:Int)+1:=IntWalk.i64_in _ (by omega);have HQ:Hid (IntKind.i64.wrap ((gl:Int)+1)=(gl:Int)+1):=q1;clear hRn he hv hg HC HR;go_wp2_with (at_builtin;refine qN rfl _ _ rfl _ K rfl (HR2 _) wr.heap.size (⟨(gl:Int)+1,base,n,an L⟩,.slice aoS nS cpS) rfl (heap_alloc_new _ _) rfl hklen ?k1)
       case k1 =>
        intro g2 cap2 w3 hR3 hg3 hat3 hlt3;replace hat3:(Value.slice aoC gl cpC).ownBlock=some g2∨g2=(wr.alloc (.cells #[.int .i64 ((gl:Int)+1),.int .i64 base,.string (ak n),.slice aoS nS cpS] 137)).heap.size:=by rw [World.size_alloc];exact hat3
        have hMa:=HMr.out.kept ((aa.refl [] wr).alloc (.cells #[.int .i64 ((gl:Int)+1),.int .i64 base,.string (ak n),.slice aoS nS cpS] 137));have hG3:=hMa.grown hg3;have hset:=hMa.setRow (x:=⟨(gl:Int)+1,base,n,an L⟩) (HOr.out.kept ((aa.refl [] wr).alloc (.cells #[.int .i64 ((gl:Int)+1),.int .i64 base,.string (ak n),.slice aoS nS cpS] 137))) hR3 hg3 hat3;have hfst:=rN (n:=K.length+1) (cap:=cap2) HLt.out HKr.out HBr.out hg3 hat3;obtain ⟨k1,hk1⟩:∃ k1,k1=K.length+1:=⟨_,rfl⟩;rw [← hk1] at hset hfst ⊢;have HSet:Hid (iw (w3.setCell ⟨b,1,none⟩ (.slice (some ⟨g2,0,none⟩) k1 cap2)) b xm (.slice (some ⟨g2,0,none⟩) k1 cap2) vL vR (K++[(⟨(gl:Int)+1,base,n,an L⟩,.slice aoS nS cpS)]) ⟨G.cs++[⟨(gl:Int)+1,base,n,an L⟩],G.ls,G.rs⟩):=hset;have HF1:Hid (aa (bf b (.slice aoC gl cpC)) w (w3.setCell ⟨b,1,none⟩ (.slice (some ⟨g2,0,none⟩) k1 cap2))):=hfst.1;have HF2:Hid (∀ k∈bf b (.slice (some ⟨g2,0,none⟩) k1 cap2),k∈bf b (.slice aoC gl cpC)∨w.heap.size < k):=hfst.2.1;have HF3:Hid ((w3.setCell ⟨b,1,none⟩ (.slice (some ⟨g2,0,none⟩) k1 cap2)).heap[w.heap.size]?=some (.cells #[.int .i64 0,.int .i64 0,.int .i64 0,.string ⟨#[]⟩,.int .u64 0,.slice none 0 0,.int .i64 0] 39 (0,0))):=hfst.2.2;obtain ⟨c30,c31,c32⟩:=fM hG3;have f30:=aj hG3 1;clear hMa hG3 hset hfst hk1 hR3 hg3 hat3 hlt3 HR2 c0 c1 c2 q1;(go_wp2_with fail);go_loopw [14] (fun iv wr=>B6 w b xm (bf b (.slice aoC gl cpC)) (.slice (some ⟨g2,0,none⟩) k1 cap2) vR (K++[(⟨(gl:Int)+1,base,n,an L⟩,.slice aoS nS cpS)]) (G.cs++[⟨(gl:Int)+1,base,n,an L⟩]) G.ls G.rs ((gl:Int)+1) (an L) #[.int .i64 0,.int .i64 0,.int .i64 0,.string ⟨#[]⟩,.int .u64 0,.slice none 0 0,.int .i64 0] iv wr) (fun iv _=>nS - (intOf iv).toNat)
        case atStart=>exact ⟨0,vL,rfl,Nat.zero_le _,HSet.out,HNl.out,HF1.out,HF3.out⟩
        case round =>
         obtain ⟨i,vLi,rfl,hi,HMi,HNi,HKi,HBi⟩:=hrel;by_cases hlt3:i < nS
         ·have hlt3':(i:Int) < nS:=by omega
          have hic:i≤cpS:=by omega
          have his:i < (an L).length:=by rw [HNS.out];exact hlt3
          have hsr:di wr aoS nS cpS (an L):=(HMi.out.own (⟨(gl:Int)+1,base,n,an L⟩,.slice aoS nS cpS) (by simp)).slice;have hrb:=HMi.out.own (⟨(gl:Int)+1,base,n,an L⟩,.slice aoS nS cpS) (by simp);obtain ⟨g,o,rfl,hx⟩:=hsr.2.2.2 i his
          have hgb:¬ g=b:=by
           intro e;obtain ⟨c2',h2'⟩:=ar hrb (k:=g) rfl;rw [e,HMi.out.at_] at h2';cases h2'
          obtain ⟨y,hye⟩:∃ y,y=(an L)[i]:=⟨_,rfl⟩;rw [← hye] at hx;obtain ⟨e0,e1,e2⟩:=hx;have HY:Hid (y=(an L)[i]):=hye;have hyp:y.p.length≤64:=by rw [hye];exact HPs.out _ (List.getElem_mem his)
          obtain ⟨aoI,cpI,hvI,hsI⟩:=HMi.out.lvs.sl;obtain ⟨lsi,hlsi⟩:∃ lsi,lsi=dF ((gl:Int)+1) G.ls ((an L).take i):=⟨_,rfl⟩;have HLs:Hid (lsi=dF ((gl:Int)+1) G.ls ((an L).take i)):=hlsi;simp only at hvI hsI;rw [← hlsi] at hvI hsI HNi;have hNil:gQ lsi (.slice aoI lsi.length cpI):=by rw [← hvI];exact HNi.out
          have hll:lsi.length≤1000000:=by
           rw [hlsi];have h2:=@gw ((gl:Int)+1) ((an L).take i) G.ls;have h3:=List.length_take_le i (an L);have h4:=HW.out.many;have h5:=HGl.out;have h6:=HNS.out;omega
          have hlp:∀ z∈lsi,z.p.length≤64:=by
           rw [hlsi];exact kH (fun z=>z.p.length≤64) (fun z hz=>HW.out.path z hz) (fun z hz=>HPs.out z (List.mem_of_mem_take hz))
          have cP:=fun W (hk:aa [] wr W)=>sE W aoI lsi.length cpI lsi (hsI.kept hk) hNil hll (fun z hz=>by have:=hlp z hz;omega) ⟨y.p,y.d,(gl:Int)+1,y.g⟩ (by simp only;omega);simp only [jm] at cP;obtain ⟨b0,b1,b2⟩:=fM HMi.out.at_;rw [hvI] at b1
          have HN:Hid (∀ w4 vL4,aa [] wr w4→cf wr.heap.size w4 vL4 (dh ⟨y.p,y.d,(gl:Int)+1,y.g⟩ lsi)→B6 w b xm (bf b (.slice aoC gl cpC)) (.slice (some ⟨g2,0,none⟩) k1 cap2) vR (K++[(⟨(gl:Int)+1,base,n,an L⟩,.slice (some ⟨g,o,none⟩) nS cpS)]) (G.cs++[⟨(gl:Int)+1,base,n,an L⟩]) G.ls G.rs ((gl:Int)+1) (an L) #[.int .i64 0,.int .i64 0,.int .i64 0,.string ⟨#[]⟩,.int .u64 0,.slice none 0 0,.int .i64 0] (.int .i64 ((i+1:Nat):Int)) (w4.setCell ⟨b,2,none⟩ vL4)):=fun w4 vL4 hK4 hO4=>by
           have hpt:dF ((gl:Int)+1) G.ls ((an L).take (i+1))=dh ⟨y.p,y.d,(gl:Int)+1,y.g⟩ lsi:=by rw [lg his,← HY.out,← HLs.out]
           refine ⟨i+1,vL4,rfl,by omega,?_,?_,?_,?_⟩
           ·rw [hpt];exact (HMi.out.kept hK4).setLeaves (hO4.mono (Nat.zero_le _))
           ·intro h0;rw [hpt] at h0;have h4:dh ⟨y.p,y.d,(gl:Int)+1,y.g⟩ lsi≠[]:=by cases lsi <;> simp [dh] <;> (try split) <;> (try split) <;> simp
            exact absurd h0 h4
           ·exact (HKi.out.trans hK4 (by simp)).setCell (.inl (by simp [bf])) _
           ·have hb:=HLt.out b (by simp [bf]);exact (show aa [b] w4 _ from (aa.refl _ _).setCell (by simp) _).at (hK4.at HBi.out (by simp)) (by simp;omega)
          have HMi2:Hid (wr.heap[b]?=some (.cells #[xm.1,.slice (some ⟨g2,0,none⟩) k1 cap2,.slice aoI lsi.length cpI,vR,xm.2.1,xm.2.2] 84 (0,0))):=by rw [← hvI];exact HMi.out.at_
          obtain ⟨nI,hnI⟩:∃ nI,nI=lsi.length:=⟨_,rfl⟩;rw [← hnI] at cP b1 HMi2;clear hye hsr hrb hvI hsI hNil hll hlp hlsi hnI;(go_wp2_with fail);refine wp_region_held_drew (S:=fun w'=>w'.cell? ⟨g,o+i*3,none⟩=some (.string (ak y.p))∧w'.cell? ⟨g,o+i*3+1,none⟩=some (.bool y.g)∧w'.cell? ⟨g,o+i*3+2,none⟩=some (.int .u64 y.d)) (by kernel_rfl) ⟨e0,e1,e2⟩ (fun hHeld=>?_);refine tk 0 ?_ rfl (by kernel_rfl) (fun _ _ _ h=>h) (Or.inl ⟨by rfl,?_⟩) hHeld ?_;rotate_left
          ·intro w9 hSw;(try dsimp only at hSw);go_simp;(try with_reducible rfl)
          (try simp only [sT,Act.put]);refine tk 1 ?_ rfl (by kernel_rfl) (fun _ _ _ h=>h) (Or.inl ⟨by rfl,?_⟩) hHeld ?_;rotate_left
          ·intro w9 hSw;(try dsimp only at hSw);go_simp;(try with_reducible rfl)
          (try simp only [sT,Act.put]);refine tk 2 ?_ rfl (by kernel_rfl) (fun _ _ _ h=>h) (Or.inl ⟨by rfl,?_⟩) hHeld ?_;rotate_left
          ·intro w9 hSw;(try dsimp only at hSw);go_simp;(try with_reducible rfl)
          (try simp only [sT,Act.put]);refine tk 3 ?_ rfl (by kernel_rfl) (fun _ _ _ h=>h) (Or.inl ⟨by rfl,?_⟩) hHeld ?_;rotate_left
          ·intro w9 hSw;(try dsimp only at hSw);go_simp;(try with_reducible rfl)
          (try simp only [sT,Act.put]);refine tk 5 ?_ rfl (by kernel_rfl) (fun _ _ _ h=>h) (Or.inl ⟨by rfl,?_⟩) hHeld ?_;rotate_left
          ·intro w9 hSw;(try dsimp only at hSw);go_simp;(try with_reducible rfl)
          (try simp only [sT,Act.put]);refine tk 6 ?_ rfl (by kernel_rfl) (fun _ _ _ h=>h) (Or.inl ⟨by rfl,?_⟩) hHeld ?_;rotate_left
          ·intro w9 hSw;(try dsimp only at hSw);go_simp;(try with_reducible rfl)
          (try simp only [sT,Act.put]);refine tk 7 ?_ rfl (by kernel_rfl) (fun _ _ _ h=>h) (Or.inl ⟨by rfl,?_⟩) hHeld ?_;rotate_left
          ·intro w9 hSw;(try dsimp only at hSw);go_simp;(try with_reducible rfl)
          (try simp only [sT,Act.put]);refine tk 8 ?_ rfl (by kernel_rfl) (fun _ _ _ h=>h) (Or.inl ⟨by rfl,?_⟩) hHeld ?_;rotate_left
          ·intro w9 hSw;(try dsimp only at hSw);go_simp;(try with_reducible rfl)
          (try simp only [sT,Act.put]);refine tk 9 ?_ rfl (by kernel_rfl) (fun _ _ _ h=>h) (Or.inl ⟨by rfl,?_⟩) hHeld ?_;rotate_left
          ·intro w9 hSw;(try dsimp only at hSw);go_simp;(try with_reducible rfl)
          (try simp only [sT,Act.put]);refine tk 10 ?_ rfl (by kernel_rfl) (fun _ _ _ h=>h) (Or.inl ⟨by rfl,?_⟩) hHeld ?_;rotate_left
          ·intro w9 hSw;(try dsimp only at hSw);go_simp;(try with_reducible rfl)
          (try simp only [sT,Act.put]);refine tk 11 ?_ rfl (by kernel_rfl) (fun _ _ _ h=>h) (Or.inl ⟨by rfl,?_⟩) hHeld ?_;rotate_left
          ·intro w9 hSw;(try dsimp only at hSw);go_simp;(try with_reducible rfl)
          (try simp only [sT,Act.put]);refine tk 12 ?_ rfl (by kernel_rfl) (fun _ _ _ h=>h) (Or.inl ⟨by rfl,?_⟩) hHeld ?_;rotate_left
          ·intro w9 hSw;(try dsimp only at hSw);go_simp;(try with_reducible rfl)
          (try simp only [sT,Act.put]);refine tk 13 ?_ rfl (by kernel_rfl) (fun _ _ _ h=>h) (Or.inl ⟨by rfl,?_⟩) hHeld ?_;rotate_left
          ·intro w9 hSw;(try dsimp only at hSw);go_simp;(try with_reducible rfl)
          (try simp only [sT,Act.put]);refine tk 14 ?_ rfl (by kernel_rfl) (fun _ _ _ h=>h) (Or.inl ⟨by rfl,?_⟩) hHeld ?_;rotate_left
          ·intro w9 hSw;(try dsimp only at hSw);go_simp;(try with_reducible rfl)
          (try simp only [sT,Act.put]);refine tk 15 ?_ rfl (by kernel_rfl) (fun _ _ _ h=>h) (Or.inl ⟨by rfl,?_⟩) hHeld ?_;rotate_left
          ·intro w9 hSw;(try dsimp only at hSw);go_simp;(try with_reducible rfl)
          (try simp only [sT,Act.put]);refine tk 16 ?_ rfl (by kernel_rfl) (fun _ _ _ h=>h) (Or.inl ⟨by rfl,?_⟩) hHeld ?_;rotate_left
          ·intro w9 hSw;(try dsimp only at hSw);go_simp;(try with_reducible rfl)
          (try simp only [sT,Act.put]);refine tk 17 ?_ rfl (by kernel_rfl) (fun _ _ _ h=>h) (Or.inl ⟨by rfl,?_⟩) hHeld ?_;rotate_left
          ·intro w9 hSw;(try dsimp only at hSw);go_simp;(try with_reducible rfl)
          (try simp only [sT,Act.put]);refine tk 18 ?_ rfl (by kernel_rfl) (fun _ _ _ h=>h) (Or.inl ⟨by rfl,?_⟩) hHeld ?_;rotate_left
          ·intro w9 hSw;(try dsimp only at hSw);go_simp;(try with_reducible rfl)
          (try simp only [sT,Act.put]);refine tk 19 ?_ rfl (by kernel_rfl) (fun _ _ _ h=>h) (Or.inl ⟨by rfl,?_⟩) hHeld ?_;rotate_left
          ·intro w9 hSw;(try dsimp only at hSw);go_simp;(try with_reducible rfl)
          (try simp only [sT,Act.put]);refine tk 20 ?_ rfl (by kernel_rfl) (fun _ _ _ h=>h) (Or.inl ⟨by rfl,?_⟩) hHeld ?_;rotate_left
          ·intro w9 hSw;(try dsimp only at hSw);go_simp;(try with_reducible rfl)
          (try simp only [sT,Act.put]);refine tk 21 ?_ rfl (by kernel_rfl) (fun _ _ _ h=>h) (Or.inl ⟨by rfl,?_⟩) hHeld ?_;rotate_left
          ·intro w9 hSw;(try dsimp only at hSw);go_simp;(try with_reducible rfl)
          (try simp only [sT,Act.put]);refine aH 4 (by kernel_rfl) rfl (fun K0 hK0=>?_);go_simp;refine hK0.out _ _ hHeld (fun hHeld=>?_);clear hK0 K0;(try simp only [sT,Act.put]);refine aH 22 (by kernel_rfl) rfl (fun K0 hK0=>?_);go_simp;refine (cP _ (aa.refl [] _).drew).mono ?_;rintro e w4 ⟨ao4,cp4,rfl,hO4,hK4⟩;replace hK4:=(aa.refl [] wr).drew.trans hK4 (by simp);have hG4:=hK4.at HMi2.out (by simp);obtain ⟨m0,m1,m2⟩:=fM hG4;have f4:=aj hG4 2;have HFin:=HN.out w4 _ hK4 hO4;obtain ⟨n4,hn4⟩:∃ n4,n4=(dh ⟨y.p,y.d,(gl:Int)+1,y.g⟩ lsi).length:=⟨_,rfl⟩;rw [← hn4] at HFin ⊢;have HFin2:Hid (B6 w b xm (bf b (.slice aoC gl cpC)) (.slice (some ⟨g2,0,none⟩) k1 cap2) vR (K++[(⟨(gl:Int)+1,base,n,an L⟩,.slice (some ⟨g,o,none⟩) nS cpS)]) (G.cs++[⟨(gl:Int)+1,base,n,an L⟩]) G.ls G.rs ((gl:Int)+1) (an L) #[.int .i64 0,.int .i64 0,.int .i64 0,.string ⟨#[]⟩,.int .u64 0,.slice none 0 0,.int .i64 0] (.int .i64 ((i+1:Nat):Int)) (w4.setCell ⟨b,2,none⟩ (.slice ao4 n4 cp4))):=HFin;clear HFin hO4 hn4;(go_wp2_with fail);refine hK0.out _ _ ⟨hK4.cell e0 (by simp),hK4.cell e1 (by simp),hK4.cell e2 (by simp)⟩ (fun hHeld=>?_);clear hK0 K0;(try simp only [sT,Act.put]);refine tk 23 ?_ rfl (by kernel_rfl) (fun _ _ _ h=>h) (Or.inl ⟨by rfl,?_⟩) hHeld ?_;rotate_left
          ·intro w9 hSw;(try dsimp only at hSw);go_simp;(try with_reducible rfl)
          (try simp only [sT,Act.put]);refine tk 24 ?_ rfl (by kernel_rfl) (fun _ _ _ h=>h) (Or.inl ⟨by rfl,?_⟩) hHeld ?_;rotate_left
          ·intro w9 hSw;(try dsimp only at hSw);go_simp;(try with_reducible rfl)
          (try simp only [sT,Act.put]);refine aH 25 (by kernel_rfl) rfl (fun K0 hK0=>?_);go_simp;have hK4b:aa [b] wr (w4.setCell ⟨b,2,none⟩ (.slice ao4 n4 cp4)):=(hK4.mono (by simp)).setCell (.inl (by simp)) _;refine hK0.out _ _ ⟨hK4b.cell e0 (by simpa using hgb),hK4b.cell e1 (by simpa using hgb),hK4b.cell e2 (by simpa using hgb)⟩ (fun hHeld=>?_);refine wpAnyH_done (by kernel_rfl) ?_ _;all_goals go_wp2_with fail
          all_goals go_roundw
          all_goals first | exact HFin2.out | (simp [intOf];omega)
         ·have hlt3':¬ (i:Int) < nS:=by omega
          have hie:i=(an L).length:=by rw [HNS.out];have h1:=hi;rw [HNS.out] at h1;omega
          have HMe:Hid (iw wr b xm (.slice (some ⟨g2,0,none⟩) k1 cap2) vLi vR (K++[(⟨(gl:Int)+1,base,n,an L⟩,.slice aoS nS cpS)]) ⟨G.cs++[⟨(gl:Int)+1,base,n,an L⟩],dF ((gl:Int)+1) G.ls (an L),G.rs⟩):=by
           have:=HMi.out;rw [hie,List.take_length] at this;exact this
          have HNe:Hid (gQ (dF ((gl:Int)+1) G.ls (an L)) vLi):=by
           have:=HNi.out;rw [hie,List.take_length] at this;exact this
          clear hie HMi HNi;by_cases hnn:n=[]
          ·have HE2:Hid (da G ⟨(gl:Int)+1,base,n,an L⟩=⟨G.cs++[⟨(gl:Int)+1,base,n,an L⟩],dF ((gl:Int)+1) G.ls (an L),G.rs⟩):=by show da G _=_;unfold da;simp only;rw [hnn];rfl
           subst hnn;have hE:=dN;have hBi:=HBi.out;obtain ⟨r0,r1,r2,r3,r4,r5,r6⟩:=bL hBi;have f0:=ai hBi 0;have f1:=ai hBi 1;have f2:=ai hBi 2;have f3:=ai hBi 3;have f4:=ai hBi 4;have f5:=ai hBi 5;have f6:=ai hBi 6;clear hBi;(go_wp2_with fail);refine bodyPost_ret (aI (by rfl) _ (by rfl) (ff HBi.out _ _ _ _ _ _ _) rfl) rfl ?_;rw [HV2.out,HGe.out,HE2.out];exact ⟨rfl,fZ HMe.out HNe.out HLt.out HF2.out HBi.out HKi.out (aQ (aa.refl _ _) (.inl (by simp)) _ _ _ _ _ _ _)⟩
          ·have HE2:Hid (da G ⟨(gl:Int)+1,base,n,an L⟩=⟨G.cs++[⟨(gl:Int)+1,base,n,an L⟩],dF ((gl:Int)+1) G.ls (an L),jp n ((gl:Int)+1) G.rs⟩):=by show da G _=_;unfold da;rw [jO hnn]
           have hE:=ez hnn;have cM:=ua HMe.out n ((gl:Int)+1) HW.out.srs (by have h1:=HW.out.refs;have h2:=HGl.out;simp only;omega);have HBn:Hid (b≠w.heap.size):=by have:=HLt.out b (by simp [bf]);intro e;omega
           (go_wp2_with fail);refine cM.mono ?_;rintro _ w5 ⟨rfl,vR5,hM5,hK5⟩;have HM5:Hid (iw w5 b xm (.slice (some ⟨g2,0,none⟩) k1 cap2) vLi vR5 (K++[(⟨(gl:Int)+1,base,n,an L⟩,.slice aoS nS cpS)]) ⟨G.cs++[⟨(gl:Int)+1,base,n,an L⟩],dF ((gl:Int)+1) G.ls (an L),jp n ((gl:Int)+1) G.rs⟩):=hM5;have hB5:=hK5.at HBi.out (by simpa using fun e=>HBn.out (Eq.symm e));have HB5:Hid (w5.heap[w.heap.size]?=some (.cells #[.int .i64 0,.int .i64 0,.int .i64 0,.string ⟨#[]⟩,.int .u64 0,.slice none 0 0,.int .i64 0] 39 (0,0))):=hB5;have HK5:Hid (aa (bf b (.slice aoC gl cpC)) w w5):=HKi.out.trans hK5 (fun k hk=>by simp at hk;subst hk;exact .inl (by simp [bf]));obtain ⟨r0,r1,r2,r3,r4,r5,r6⟩:=bL hB5;have f0:=ai hB5 0;have f1:=ai hB5 1;have f2:=ai hB5 2;have f3:=ai hB5 3;have f4:=ai hB5 4;have f5:=ai hB5 5;have f6:=ai hB5 6;clear hB5 hM5 hK5;(go_wp2_with fail);refine bodyPost_ret (aI (by rfl) _ (by rfl) (ff HB5.out _ _ _ _ _ _ _) rfl) rfl ?_;rw [HV2.out,HGe.out,HE2.out];exact ⟨rfl,fZ HM5.out HNe.out HLt.out HF2.out HB5.out HK5.out (aQ (aa.refl _ _) (.inl (by simp)) _ _ _ _ _ _ _)⟩
end Go.Proofs.YtgpnlidnbldiiaaGreat
