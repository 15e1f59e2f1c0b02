/-
  The document's own CopySession and LoadTable.
-/
import Derived.Test.YtgpnlidnbldiiaaGreatQ2r
import Derived.Test.YtgpnlidnbldiiaaGreatMtOpenr
import Derived.Test.YtgpnlidnbldiiaaGreatQ1r
import Derived.BigQuiet
set_option maxHeartbeats 16000000
set_option maxRecDepth 100000
namespace Go.Proofs.YtgpnlidnbldiiaaGreat
open Go.RowKit
theorem rF (w:World) (x:Se) (u:Value) (hu:nU w u x.v.k) (hx:jZ x) :
 Calls Tryz.prog 109 #[jN x u] w fun e w'=>∃ u',e=.returned (jN x u')∧cw w.heap.size w' u' x.v.k∧aa [] w w':=by
 obtain ⟨ao,n,c,rfl⟩:=hu.one;obtain ⟨W1,hW1⟩:∃ W1,W1=(w.alloc (.cells #[.int .i64 x.i,.int .i64 x.q,.string (ak x.n),.int .i64 x.v.c,.int .i64 x.v.s,.int .i64 x.v.r,.string (ak x.v.p),.int .u64 x.v.d,.slice ao n c,.int .i64 x.v.m] 155)).alloc (.cells #[.int .i64 0,.int .i64 0,.string ⟨#[]⟩,.int .i64 0,.int .i64 0,.int .i64 0,.string ⟨#[]⟩,.int .u64 0,.slice none 0 0,.int .i64 0] 155):=⟨_,rfl⟩;have hK0:aa [] w W1:=by rw [hW1];exact ((aa.refl _ _).alloc _).alloc _
 have hL:=lJ w #[.int .i64 x.i,.int .i64 x.q,.string (ak x.n),.int .i64 x.v.c,.int .i64 x.v.s,.int .i64 x.v.r,.string (ak x.v.p),.int .u64 x.v.d,.slice ao n c,.int .i64 x.v.m] #[.int .i64 0,.int .i64 0,.string ⟨#[]⟩,.int .i64 0,.int .i64 0,.int .i64 0,.string ⟨#[]⟩,.int .u64 0,.slice none 0 0,.int .i64 0] 155;rw [← hW1] at hL;have HL:=ah hL;have HK0:=ah hK0;have cD:=fun W (hk:aa [] w W)=>gp W x.v (.slice ao n c) (hu.kept hk) hx.2;unfold gA at cD;unfold jN;clear hx hL hK0 hu;go_enter Tryz.func109,Tryz.ntmps109;go_wp2_with fail
 rw [← hW1];have HA3:=ah HL.out.1;have HB3:=ah HL.out.2;have HK3:=HK0;clear hW1;refine (cD _ HK3.out).mono ?_;rintro _ w4 ⟨v',rfl,hO,hK4⟩;obtain ⟨a',n',c',rfl⟩:=hO.ko.one;have hA4:=hK4.at HA3.out (by simp);have hB4:=hK4.at HB3.out (by simp);have q3:=ag (k:=3) hA4 rfl;have q4:=ag (k:=4) hA4 rfl;have q5:=ag (k:=5) hA4 rfl;have q6:=ag (k:=6) hA4 rfl;have q7:=ag (k:=7) hA4 rfl;have q8:=ag (k:=8) hA4 rfl;have q9:=ag (k:=9) hA4 rfl;have fa3:=aj hA4 3;have fa4:=aj hA4 4;have fa5:=aj hA4 5;have fa6:=aj hA4 6;have fa7:=aj hA4 7;have fa8:=aj hA4 8;have fa9:=aj hA4 9;have HB4:=ah hB4;have HA4:=ah hA4;have HO:=ah hO;have HK4:=ah hK4;clear hO hK4 hA4 hB4 cD;go_upto_region 2 with fail
 obtain ⟨w5,hw5⟩:∃ w5,w5=((((((w4.setCell ⟨w.heap.size,3,none⟩ (.int .i64 x.v.c)).setCell ⟨w.heap.size,4,none⟩ (.int .i64 x.v.s)).setCell ⟨w.heap.size,5,none⟩ (.int .i64 x.v.r)).setCell ⟨w.heap.size,6,none⟩ (.string (ak x.v.p))).setCell ⟨w.heap.size,7,none⟩ (.int .u64 x.v.d)).setCell ⟨w.heap.size,8,none⟩ (.slice a' n' c')).setCell ⟨w.heap.size,9,none⟩ (.int .i64 x.v.m):=⟨_,rfl⟩;rw [← hw5];have hA5:w5.heap[w.heap.size]?=some (.cells #[.int .i64 x.i,.int .i64 x.q,.string (ak x.n),.int .i64 x.v.c,.int .i64 x.v.s,.int .i64 x.v.r,.string (ak x.v.p),.int .u64 x.v.d,.slice a' n' c',.int .i64 x.v.m] 155 (0,0)):=by rw [hw5];exact l8 HA4.out _ _ _ _ _ _ _
 have hK5:aa [w.heap.size] w4 w5:=by rw [hw5];exact jJ (aa.refl _ w4) (by simp) _ _ _ _ _ _ _
 have hB5:=hK5.at HB4.out (by simp);clear q3 fa3;clear q4 fa4;clear q5 fa5;clear q6 fa6;clear q7 fa7;clear q8 fa8;clear q9 fa9;have q0:=ag (k:=0) hA5 rfl;have q1:=ag (k:=1) hA5 rfl;have q2:=ag (k:=2) hA5 rfl;have q3:=ag (k:=3) hA5 rfl;have q4:=ag (k:=4) hA5 rfl;have q5:=ag (k:=5) hA5 rfl;have q6:=ag (k:=6) hA5 rfl;have q7:=ag (k:=7) hA5 rfl;have q8:=ag (k:=8) hA5 rfl;have q9:=ag (k:=9) hA5 rfl;have r0:=ag (k:=0) hB5 rfl;have r1:=ag (k:=1) hB5 rfl;have r2:=ag (k:=2) hB5 rfl;have r3:=ag (k:=3) hB5 rfl;have r4:=ag (k:=4) hB5 rfl;have r5:=ag (k:=5) hB5 rfl;have r6:=ag (k:=6) hB5 rfl;have r7:=ag (k:=7) hB5 rfl;have r8:=ag (k:=8) hB5 rfl;have r9:=ag (k:=9) hB5 rfl;have fb0:=aj hB5 0;have fb1:=aj hB5 1;have fb2:=aj hB5 2;have fb3:=aj hB5 3;have fb4:=aj hB5 4;have fb5:=aj hB5 5;have fb6:=aj hB5 6;have fb7:=aj hB5 7;have fb8:=aj hB5 8;have fb9:=aj hB5 9;have HA5:=ah hA5;have HB5:=ah hB5;have HK5:=ah hK5;clear hw5 hA5 hB5 hK5;go_wp2_with fail
 have HKe:Hid (aa [w.heap.size,w.heap.size+1] w4 (mY w5 (w.heap.size+1) (.int .i64 x.i) (.int .i64 x.q) (.string (ak x.n)) (.int .i64 x.v.c) (.int .i64 x.v.s) (.int .i64 x.v.r) (.string (ak x.v.p)) (.int .u64 x.v.d) (.slice a' n' c') (.int .i64 x.v.m))):=iT (HK5.out.mono (by simp)) (by simp) _ _ _ _ _ _ _ _ _ _;refine bodyPost_ret (uD (by rfl) _ (by rfl) (li HB5.out rfl _ _ _ _ _ _ _ _ _ _) rfl) rfl ?_;exact ⟨_,rfl,(HO.out.mono HK3.out.size).keep HKe.out (la HA4.out HB4.out) (by decide) (by decide),(HK3.out.trans HK4.out (by simp)).trans HKe.out (fun k hk=>.inr (by simp at hk;omega))⟩
def CP (w:World) (size:Int) (L:List Se) (e:Ending) (w':World):Prop :=
 (∃ sz b v X,size=(sz:Nat)∧(1≤size∧size≤16)∧L.length≤sz∧eS L∧e=.returned (.tuple #[.pointer (some ⟨b,0,none⟩),.int .i64 0])∧eH (fun k=>w.heap.size≤k) w' b sz v X L∧aa [] w w'∧∀ k∈aW b v,w.heap.size≤k) ∨
 (¬ (1≤size∧size≤16)∧e=.returned (.tuple #[.pointer none,.int .i64 1])∧aa [] w w') ∨
 ((1≤size∧size≤16)∧¬ ((L.length:Int)≤size∧eS L)∧e=.returned (.tuple #[.pointer none,.int .i64 4])∧aa [] w w')
theorem tN {w:World}{b o:Nat}{v:Value}(h:w.cell? ⟨b,o,none⟩=some v):b < w.heap.size:=by
 by_cases hb:b < w.heap.size
 ·exact hb
 ·simp [World.cell?,Array.getElem?_eq_none (Nat.le_of_not_lt hb)] at h
theorem AA {w:World}{g4 o4 j:Nat}{x:Se × Value}(h:∃ b o,(some ⟨g4,o4,none⟩:Option Addr)=some ⟨b,o,none⟩∧jl w b (o+j*10) x):g4 < w.heap.size:=by
 obtain ⟨b,o,e,hx⟩:=h;cases e
 exact tN hx.c0
def EI (w:World) (b sz n:Nat) (L:List Se) (iv:Value) (wr:World):Prop:=∃ (j:Nat) (v:Value) (X:List (Se × Value)),iv=.int .i64 (j:Int)∧j≤n∧Hid (eH (fun k=>w.heap.size≤k) wr b sz v X (L.take j))∧Hid (aa [] w wr)∧Hid (∀ k∈aW b v,w.heap.size≤k)∧Hid (eS (L.take j))
def EA (w1:World) (j:Nat) (x:Se) (L:List Se) (iv:Value) (wr:World):Prop:=∃ k:Nat,iv=.int .i64 (k:Int)∧k≤j∧Hid (aa [] w1 wr)∧Hid (∀ y∈L.take k,y.i≠x.i∧y.n≠x.n)
theorem Aj {L:List Se}{k:Nat}{x y:Se}(hy:L[k]?=some y) (h:∀ y∈L.take k,y.i≠x.i∧y.n≠x.n) (h1:y.i≠x.i) (h2:y.n≠x.n):∀ y∈L.take (k+1),y.i≠x.i∧y.n≠x.n:=fun z hz=>by
 rw [fR hy] at hz;rcases List.mem_append.1 hz with hz | hz
 ·exact h z hz
 ·rw [show z=y by simpa using hz];exact ⟨h1,h2⟩
set_option linter.unusedSimpArgs false in
theorem sC (w:World) (size:Int) (ao:Option Addr) (n c:Nat) (X:List (Se × Value)) (L:List Se) (hS:vo w ao n c X) (hcom:X.map Prod.fst=L) (hok:∀ x∈L,jZ x) :
 Calls Tryz.prog 60 #[.int .i64 size,.slice ao n c] w fun e w'=>CP w size L e w':=by
 have hc:=hS.2.1;have hm:=hS.2.2.1;unfold maxLen at hm;have HS:=ah hS;have HL:=ah hS.1;have HCom:=ah hcom;have HOk:=ah hok;have HCl:Hid (L.length=n):=by show _=_;rw [← hcom];simpa using hS.1
 clear hS hok hcom;have cN:=mh w size;unfold DB at cN;go_enter Tryz.func60,Tryz.ntmps60;go_wp2_with fail
 refine cN.mono ?_;rintro _ w1 (⟨hs1,hs2,rfl,rfl⟩ | ⟨hs,rfl,hW2⟩)
 ·obtain ⟨sz,rfl⟩:∃ sz:Nat,size=sz:=⟨size.toNat,by omega⟩;clear cN;have HSz:Hid (1≤(sz:Int)∧(sz:Int)≤16):=⟨hs1,hs2⟩;have HT1:=ah (eH.new (P:=fun k=>w.heap.size≤k) w sz);have HK1:=ah ((aa.refl [] w).alloc (.cells #[.int .i64 sz,.slice none 0 0] 96));obtain ⟨w1,hw1⟩:∃ w1,w1=w.alloc (.cells #[.int .i64 sz,.slice none 0 0] 96):=⟨_,rfl⟩;rw [← hw1] at HT1 HK1 ⊢;obtain ⟨b,hb⟩:∃ b,b=w.heap.size:=⟨_,rfl⟩;have HB:=ah hb;replace HT1:Hid (eH (fun k=>w.heap.size≤k) w1 b sz (.slice none 0 0) [] []):=by rw [hb];exact HT1
  rw [← hb];clear hw1 hb;by_cases hn:n≤sz
  ·have hn':¬ (sz:Int) < n:=by omega
   (go_wp2_with fail);have HNs:=ah hn;have hdec:decide (sz < n)=false:=by simp;omega
   rw [hdec];clear hn hn' hdec hs1 hs2;go_loopw [8] (fun iv wr=>EI w b sz n L iv wr) (fun iv _=>n - (intOf iv).toNat)
   case atStart=>exact ⟨0,_,_,rfl,Nat.zero_le _,HT1,HK1,fun k hk=>(by simp [aW,Value.ownBlock] at hk;subst hk;exact Nat.le_of_eq HB.out.symm),mP⟩
   case round =>
    obtain ⟨j,v,X',rfl,hj,HT,HK,HV,HLd⟩:=hrel;obtain ⟨wj,hwj⟩:∃ wj,wj=wr:=⟨_,rfl⟩;rw [← hwj] at HT HK ⊢;clear hwj;by_cases hlt:j < n
    ·have hlt':(j:Int) < n:=by omega
     have hjc:j≤c:=by omega
     have hjX:j < X.length:=by rw [HL.out];exact hlt
     have hjL:j < L.length:=by rw [HCl.out];exact hlt
     have hCk:=dm HCom.out hjX hjL;have hSw:=HS.out.kept HK.out;obtain ⟨g4,o4,he4,hx4⟩:=hSw.2.2.2.2.1 j hjX;have hko:=hSw.2.2.2.2.2 _ (List.getElem_mem hjX);subst he4;obtain ⟨h0,h1,h2,h3,h4,h5,h6,h7,h8,h9⟩:=hx4;rw [hCk] at h0 h1 h2 h3 h4 h5 h6 h7 h9 hko;obtain ⟨mo,mm,mc,hm2⟩:=hko.one;rw [hm2] at h8 hko;have HOx:=ah (HOk.out L[j] (List.getElem_mem hjL));obtain ⟨x,hxe⟩:∃ x,x=L[j]:=⟨_,rfl⟩;have HX:Hid (L[j]?=some x):=by show _=_;rw [hxe];simp
     rw [← hxe] at h0 h1 h2 h3 h4 h5 h6 h7 h9 hko HOx;have HKo:=ah hko;have HLen:Hid ((L.take j).length=j):=by show _=_;simp;omega
     have HJs:Hid (j+1≤sz):=by have h:=HNs.out;show _≤_;omega
     clear hSw hxe hCk hjX hm2 hko;by_cases hq:x.q < 0
     ·have HBad:=ah (ye HX.out hq);(go_wp2_with fail);go_ret2
      exact .inr (.inr ⟨HSz.out,fun h=>HBad.out h.2,rfl,HK.out⟩)
     ·have HQ:Hid (0≤x.q):=by show (0:Int)≤_;omega
      (go_wp2_with fail);go_loopw [9] (fun iv wr2=>EA wj j x L iv wr2) (fun iv _=>j - (intOf iv).toNat)
      case atStart=>exact ⟨0,rfl,Nat.zero_le _,aa.refl _ _,fun y hy=>by simp at hy⟩
      case round =>
       obtain ⟨k,rfl,hk,HKk,HN⟩:=hrel;by_cases hklt:k < j
       ·have hklt':(k:Int) < j:=by omega
        have hkX:k < X.length:=by rw [HL.out];omega
        have hkL:k < L.length:=by rw [HCl.out];omega
        have hCk:=dm HCom.out hkX hkL;obtain ⟨g5,o5,he5,hx5⟩:=HS.out.2.2.2.2.1 k hkX;cases he5
        have p0:=hx5.c0;have p2:=hx5.c2;rw [hCk] at p0 p2;obtain ⟨y,hye⟩:∃ y,y=L[k]:=⟨_,rfl⟩;have HY:Hid (L[k]?=some y):=by show _=_;rw [hye];simp
        rw [← hye] at p0 p2;have hKw:=HK.out.trans HKk.out (by simp);replace p0:=hKw.cell p0 (by simp);replace p2:=hKw.cell p2 (by simp);have q0:=HKk.out.cell h0 (by simp);have q2:=HKk.out.cell h2 (by simp);have hkn:(k:Int) < n:=by omega
        have hkc:k≤c:=by omega
        clear hye hCk hx5 hkX hkL hKw;by_cases e1:y.i=x.i
        ·have HBad:=ah (Ad HX.out HY.out hklt e1);have u1:(y.i==x.i)=true:=by simpa using e1
         have HF:=ah (HK.out.trans (HKk.out.trans (aN wr 1) (by simp)) (by simp));clear e1;(go_wp2_with fail);go_quiet (fail)
         have HFq:=ah (HK.out.trans (HKk.out.trans (aN wr nq) (by simp)) (by simp));(go_wp2_with fail);go_ret2
         exact .inr (.inr ⟨HSz.out,fun h=>HBad.out h.2,rfl,HFq.out⟩)
        ·have u1:(y.i==x.i)=false:=by simpa using e1
         by_cases e2:y.n=x.n
         ·have HBad:=ah (zo HX.out HY.out hklt e2);have u3:((ak y.n).toList==(ak x.n).toList)=true:=by rw [kE];simp [e2]
          clear e1 e2;(go_wp2_with fail);go_quiet (fail)
          have HFq:=ah (HK.out.trans (HKk.out.trans (aN wr nq) (by simp)) (by simp));(go_wp2_with fail);go_ret2
          exact .inr (.inr ⟨HSz.out,fun h=>HBad.out h.2,rfl,HFq.out⟩)
         ·have u3:((ak y.n).toList==(ak x.n).toList)=false:=by rw [kE];simp [e2]
          have HNn:=ah (Aj HY.out HN.out e1 e2);clear e1 e2;(go_wp2_with fail);go_quiet (fail)
          have HFq:=ah (HKk.out.trans (aN wr nq) (by simp));(go_wp2_with fail);go_roundw
          case rel=>exact ⟨k+1,by go_num,by omega,HFq,HNn⟩
          case measure=>simp [intOf];omega
       ·have hklt':¬ (k:Int) < j:=by omega
        have hkj:k=j:=by omega
        have HNj:=HN;rw [hkj] at HNj;clear hkj;have HLn:Hid (eS (L.take (j+1))):=oI HX.out HLd.out HQ.out (fun y hy=>(HNj.out y hy).1) (fun y hy=>(HNj.out y hy).2);have HT3:=ah (HT.out.kept HKk.out);have HK3:=ah (HK.out.trans HKk.out (by simp));obtain ⟨ao3,c3,hv3,hc3,hm3,_,_⟩:=HT3.out.row.t.shape;obtain ⟨n3,hn3⟩:∃ n3,n3=X'.length:=⟨_,rfl⟩;rw [← hn3] at hv3;subst hv3;have t1:=HT3.out.cells.2;have hlen:X'.length≤100000:=by have h:=HJs.out;have h2:=HSz.out;rw [HT3.out.len,HLen.out];omega
        have y0:=HKk.out.cell h0 (by simp);have y1:=HKk.out.cell h1 (by simp);have y2:=HKk.out.cell h2 (by simp);have y3:=HKk.out.cell h3 (by simp);have y4:=HKk.out.cell h4 (by simp);have y5:=HKk.out.cell h5 (by simp);have y6:=HKk.out.cell h6 (by simp);have y7:=HKk.out.cell h7 (by simp);have y8:=HKk.out.cell h8 (by simp);have y9:=HKk.out.cell h9 (by simp);have cS:=rF wr.drew x (.slice mo mm mc) (HKo.out.kept (HKk.out.trans (aa.refl [] wr).drew (by simp))) HOx.out;unfold jN at cS;have HLe:Hid (X'.length+1≤1000000000):=by show _≤_;omega
        have HVb:Hid (w.heap.size≤b):=HV.out b (by simp [aW])
        have HGl:Hid (g4 ∉ aW b (.slice ao3 n3 c3)):=fun hm=>by
         have h:=HV.out _ hm;have h2:=AA (HS.out.2.2.2.2.1 j (by rw [HL.out];exact hlt));omega
        clear hlen hn3 hc3 hm3 h0 h1 h2 h3 h4 h5 h6 h7 h8 h9;go_upto_region 16 with fail
        refine wp_region_held_drew (S:=fun w'=>w'.cell? ⟨g4,o4+j*10,none⟩=some (.int .i64 x.i)∧w'.cell? ⟨g4,o4+j*10+1,none⟩=some (.int .i64 x.q)∧w'.cell? ⟨g4,o4+j*10+2,none⟩=some (.string (ak x.n))∧w'.cell? ⟨g4,o4+j*10+3,none⟩=some (.int .i64 x.v.c)∧w'.cell? ⟨g4,o4+j*10+4,none⟩=some (.int .i64 x.v.s)∧w'.cell? ⟨g4,o4+j*10+5,none⟩=some (.int .i64 x.v.r)∧w'.cell? ⟨g4,o4+j*10+6,none⟩=some (.string (ak x.v.p))∧w'.cell? ⟨g4,o4+j*10+7,none⟩=some (.int .u64 x.v.d)∧w'.cell? ⟨g4,o4+j*10+8,none⟩=some (.slice mo mm mc)∧w'.cell? ⟨g4,o4+j*10+9,none⟩=some (.int .i64 x.v.m)) (by kernel_rfl) ⟨y0,y1,y2,y3,y4,y5,y6,y7,y8,y9⟩ (fun hHeld=>?_);refine aU [0,1,2,3,5,6,7,8] (by rfl) (by kernel_rfl) (fun _ _ _ _ _ h=>h) hHeld ?_
        iterate 8
         refine yk ?_ rfl (Or.inl ⟨by rfl,?_⟩) ?_;rotate_left
         ·intro w9 hSw;(try dsimp only at hSw);go_simp;(try with_reducible rfl)
         try simp only [sT,Act.put]
        refine aT ?_;simp only [au,sT];refine wpAnyH_ready (rs:=[4,9]) (by kernel_rfl) (by simp) (AllReadyH.cons rfl (fun K0 hK0=>?_) (AllReadyH.cons rfl (fun K0 hK0=>?_) AllReadyH.nil))
        ·go_simp;refine hK0.out _ _ hHeld (fun hHeld=>?_);clear hK0 K0;(try simp only [sT,Act.put]);refine aH 9 (by kernel_rfl) rfl (fun K0 hK0=>?_);go_simp;refine (cS).mono ?_;rintro _ w4 ⟨u4,rfl,hO4,hK4⟩;obtain ⟨a4,n4,c4,rfl⟩:=hO4.ko.one;have HO4:=ah hO4;have HK4:=ah ((aa.refl [] wr).drew.trans hK4 (by simp));have HKb:Hid (aa [] wr (w4.alloc (.cells #[.int .i64 x.i,.int .i64 x.q,.string (ak x.n),.int .i64 x.v.c,.int .i64 x.v.s,.int .i64 x.v.r,.string (ak x.v.p),.int .u64 x.v.d,.slice a4 n4 c4,.int .i64 x.v.m] 155))):=HK4.out.alloc _;have HNw:=eT (x:=(x,.slice a4 n4 c4)) rfl (heap_alloc_new w4 (.cells #[.int .i64 x.i,.int .i64 x.q,.string (ak x.n),.int .i64 x.v.c,.int .i64 x.v.s,.int .i64 x.v.r,.string (ak x.v.p),.int .u64 x.v.d,.slice a4 n4 c4,.int .i64 x.v.m] 155));replace t1:=HK4.out.cell t1 (by simp);clear hO4 hK4;(go_wp2_with fail);refine hK0.out _ _ ⟨HK4.out.cell y0 (by simp),HK4.out.cell y1 (by simp),HK4.out.cell y2 (by simp),HK4.out.cell y3 (by simp),HK4.out.cell y4 (by simp),HK4.out.cell y5 (by simp),HK4.out.cell y6 (by simp),HK4.out.cell y7 (by simp),HK4.out.cell y8 (by simp),HK4.out.cell y9 (by simp)⟩ (fun hHeld=>?_);clear hK0 K0;(try simp only [sT,Act.put]);refine aH 10 (by kernel_rfl) rfl (fun K0 hK0=>?_);go_simp;refine hK0.out _ _ ⟨HKb.out.cell y0 (by simp),HKb.out.cell y1 (by simp),HKb.out.cell y2 (by simp),HKb.out.cell y3 (by simp),HKb.out.cell y4 (by simp),HKb.out.cell y5 (by simp),HKb.out.cell y6 (by simp),HKb.out.cell y7 (by simp),HKb.out.cell y8 (by simp),HKb.out.cell y9 (by simp)⟩ (fun hHeld=>?_);clear hK0 K0;(try simp only [sT,Act.put]);refine aH 11 (by kernel_rfl) rfl (fun K0 hK0=>?_);refine fO (by rfl) _ _ (by rfl) 0 _ X' (by simp [Act.eval]) (HT3.out.kept HKb.out).row ⟨w4.heap.size,0,none⟩ 1 1 [(x,.slice a4 n4 c4)] (by simp [Act.eval]) rfl HNw (by intro y hy;simp at hy;subst hy;rfl) (by omega) HLe.out (Nat.zero_le _) ?_;intro g5 n5 c5 w5 hR5 hg5 hat5;have hP5:=(HT3.out.kept HKb.out).push (x:=x) ((HO4.out.toP (P:=fun k=>w.heap.size≤k) (fun j hj=>Nat.le_trans HK3.out.size hj)).kept ((aa.refl [] w4).alloc _)) hR5 hg5 hat5;have HE:Hid (eH (fun k=>w.heap.size≤k) (w5.setCell ⟨b,1,none⟩ (.slice (some ⟨g5,0,none⟩) n5 c5)) b sz (.slice (some ⟨g5,0,none⟩) n5 c5) (X'++[(x,.slice a4 n4 c4)]) (L.take (j+1))):=by show eH _ _ _ _ _ _ _;rw [fR HX.out];exact hP5.1
         have HKe:Hid (aa [] w (w5.setCell ⟨b,1,none⟩ (.slice (some ⟨g5,0,none⟩) n5 c5))):=(HK3.out.trans HKb.out (by simp)).trans hP5.2.1 (fun k hk=>.inr (HV.out k hk))
         have HVe:Hid (∀ k∈aW b (.slice (some ⟨g5,0,none⟩) n5 c5),w.heap.size≤k):=fun k hk=>by
          rcases List.mem_cons.1 hk with rfl | hk
          ·exact HVb.out
          ·rw [show k=g5 by simpa [Value.ownBlock] using hk];rcases hat5 with e | e
           ·exact HV.out _ (by simp [aW,e])
           ·rw [e];exact (HK3.out.trans HKb.out (by simp)).size
         have HKr:Hid (aa (aW b (.slice ao3 n3 c3)) wr w5):=(HKb.out.mono (by simp)).grown hg5 (fun k hk=>.inl (by simp [aW,hk]));have HKs:Hid (aa (aW b (.slice ao3 n3 c3)) wr (w5.setCell ⟨b,1,none⟩ (.slice (some ⟨g5,0,none⟩) n5 c5))):=HKr.out.setCell (.inl (by simp [aW])) _;have f5:=hP5.2.2;have c5b:=ag (k:=1) f5 rfl;have fz5:=aj f5 1;have hgl:g4 ∉ aW b (.slice ao3 n3 c3):=HGl.out;clear hR5 hg5 hat5 hP5 f5;refine hK0.out _ _ ⟨HKr.out.cell y0 hgl,HKr.out.cell y1 hgl,HKr.out.cell y2 hgl,HKr.out.cell y3 hgl,HKr.out.cell y4 hgl,HKr.out.cell y5 hgl,HKr.out.cell y6 hgl,HKr.out.cell y7 hgl,HKr.out.cell y8 hgl,HKr.out.cell y9 hgl⟩ (fun hHeld=>?_);clear hK0 K0;(try simp only [sT,Act.put]);refine aU [12,13] (by rfl) (by kernel_rfl) (fun _ _ _ _ _ h=>h) hHeld ?_
         iterate 2
          refine yk ?_ rfl (Or.inl ⟨by rfl,?_⟩) ?_;rotate_left
          ·intro w9 hSw;(try dsimp only at hSw);go_simp;(try with_reducible rfl)
          try simp only [sT,Act.put]
         refine aT ?_;simp only [au,sT];refine aH 14 (by kernel_rfl) rfl (fun K0 hK0=>?_);go_simp;obtain ⟨w6,hw6⟩:∃ w6,w6=w5.setCell ⟨b,1,none⟩ (.slice (some ⟨g5,0,none⟩) n5 c5):=⟨_,rfl⟩;rw [← hw6] at HE HKe HKs ⊢;refine hK0.out _ _ ⟨HKs.out.cell y0 hgl,HKs.out.cell y1 hgl,HKs.out.cell y2 hgl,HKs.out.cell y3 hgl,HKs.out.cell y4 hgl,HKs.out.cell y5 hgl,HKs.out.cell y6 hgl,HKs.out.cell y7 hgl,HKs.out.cell y8 hgl,HKs.out.cell y9 hgl⟩ (fun hHeld=>?_);refine wpAnyH_done (by kernel_rfl) ?_ _;clear hHeld hK0 K0 hw6 t1 y0 y1 y2 y3 y4 y5 y6 y7 y8 y9 c5b fz5;(go_wp2_with fail);go_roundw
         case rel=>exact ⟨j+1,_,_,by go_num,by omega,HE,HKe,HVe,HLn⟩
         case measure=>simp [intOf];omega
        ·go_simp;refine (cS).mono ?_;rintro _ w4 ⟨u4,rfl,hO4,hK4⟩;obtain ⟨a4,n4,c4,rfl⟩:=hO4.ko.one;have HO4:=ah hO4;have HK4:=ah ((aa.refl [] wr).drew.trans hK4 (by simp));have HKb:Hid (aa [] wr (w4.alloc (.cells #[.int .i64 x.i,.int .i64 x.q,.string (ak x.n),.int .i64 x.v.c,.int .i64 x.v.s,.int .i64 x.v.r,.string (ak x.v.p),.int .u64 x.v.d,.slice a4 n4 c4,.int .i64 x.v.m] 155))):=HK4.out.alloc _;have HNw:=eT (x:=(x,.slice a4 n4 c4)) rfl (heap_alloc_new w4 (.cells #[.int .i64 x.i,.int .i64 x.q,.string (ak x.n),.int .i64 x.v.c,.int .i64 x.v.s,.int .i64 x.v.r,.string (ak x.v.p),.int .u64 x.v.d,.slice a4 n4 c4,.int .i64 x.v.m] 155));replace t1:=HK4.out.cell t1 (by simp);clear hO4 hK4;(go_wp2_with fail);refine hK0.out _ _ ⟨HK4.out.cell y0 (by simp),HK4.out.cell y1 (by simp),HK4.out.cell y2 (by simp),HK4.out.cell y3 (by simp),HK4.out.cell y4 (by simp),HK4.out.cell y5 (by simp),HK4.out.cell y6 (by simp),HK4.out.cell y7 (by simp),HK4.out.cell y8 (by simp),HK4.out.cell y9 (by simp)⟩ (fun hHeld=>?_);clear hK0 K0;(try simp only [sT,Act.put]);refine wpAnyH_ready (rs:=[4,10]) (by kernel_rfl) (by simp) (AllReadyH.cons rfl (fun K0 hK0=>?_) (AllReadyH.cons rfl (fun K0 hK0=>?_) AllReadyH.nil))
         ·go_simp;refine hK0.out _ _ hHeld (fun hHeld=>?_);clear hK0 K0;(try simp only [sT,Act.put]);refine aH 10 (by kernel_rfl) rfl (fun K0 hK0=>?_);go_simp;refine hK0.out _ _ ⟨HKb.out.cell y0 (by simp),HKb.out.cell y1 (by simp),HKb.out.cell y2 (by simp),HKb.out.cell y3 (by simp),HKb.out.cell y4 (by simp),HKb.out.cell y5 (by simp),HKb.out.cell y6 (by simp),HKb.out.cell y7 (by simp),HKb.out.cell y8 (by simp),HKb.out.cell y9 (by simp)⟩ (fun hHeld=>?_);clear hK0 K0;(try simp only [sT,Act.put]);refine aH 11 (by kernel_rfl) rfl (fun K0 hK0=>?_);refine fO (by rfl) _ _ (by rfl) 0 _ X' (by simp [Act.eval]) (HT3.out.kept HKb.out).row ⟨w4.heap.size,0,none⟩ 1 1 [(x,.slice a4 n4 c4)] (by simp [Act.eval]) rfl HNw (by intro y hy;simp at hy;subst hy;rfl) (by omega) HLe.out (Nat.zero_le _) ?_;intro g5 n5 c5 w5 hR5 hg5 hat5;have hP5:=(HT3.out.kept HKb.out).push (x:=x) ((HO4.out.toP (P:=fun k=>w.heap.size≤k) (fun j hj=>Nat.le_trans HK3.out.size hj)).kept ((aa.refl [] w4).alloc _)) hR5 hg5 hat5;have HE:Hid (eH (fun k=>w.heap.size≤k) (w5.setCell ⟨b,1,none⟩ (.slice (some ⟨g5,0,none⟩) n5 c5)) b sz (.slice (some ⟨g5,0,none⟩) n5 c5) (X'++[(x,.slice a4 n4 c4)]) (L.take (j+1))):=by show eH _ _ _ _ _ _ _;rw [fR HX.out];exact hP5.1
          have HKe:Hid (aa [] w (w5.setCell ⟨b,1,none⟩ (.slice (some ⟨g5,0,none⟩) n5 c5))):=(HK3.out.trans HKb.out (by simp)).trans hP5.2.1 (fun k hk=>.inr (HV.out k hk))
          have HVe:Hid (∀ k∈aW b (.slice (some ⟨g5,0,none⟩) n5 c5),w.heap.size≤k):=fun k hk=>by
           rcases List.mem_cons.1 hk with rfl | hk
           ·exact HVb.out
           ·rw [show k=g5 by simpa [Value.ownBlock] using hk];rcases hat5 with e | e
            ·exact HV.out _ (by simp [aW,e])
            ·rw [e];exact (HK3.out.trans HKb.out (by simp)).size
          have HKr:Hid (aa (aW b (.slice ao3 n3 c3)) wr w5):=(HKb.out.mono (by simp)).grown hg5 (fun k hk=>.inl (by simp [aW,hk]));have HKs:Hid (aa (aW b (.slice ao3 n3 c3)) wr (w5.setCell ⟨b,1,none⟩ (.slice (some ⟨g5,0,none⟩) n5 c5))):=HKr.out.setCell (.inl (by simp [aW])) _;have f5:=hP5.2.2;have c5b:=ag (k:=1) f5 rfl;have fz5:=aj f5 1;have hgl:g4 ∉ aW b (.slice ao3 n3 c3):=HGl.out;clear hR5 hg5 hat5 hP5 f5;refine hK0.out _ _ ⟨HKr.out.cell y0 hgl,HKr.out.cell y1 hgl,HKr.out.cell y2 hgl,HKr.out.cell y3 hgl,HKr.out.cell y4 hgl,HKr.out.cell y5 hgl,HKr.out.cell y6 hgl,HKr.out.cell y7 hgl,HKr.out.cell y8 hgl,HKr.out.cell y9 hgl⟩ (fun hHeld=>?_);clear hK0 K0;(try simp only [sT,Act.put]);refine aU [12,13] (by rfl) (by kernel_rfl) (fun _ _ _ _ _ h=>h) hHeld ?_
          iterate 2
           refine yk ?_ rfl (Or.inl ⟨by rfl,?_⟩) ?_;rotate_left
           ·intro w9 hSw;(try dsimp only at hSw);go_simp;(try with_reducible rfl)
           try simp only [sT,Act.put]
          refine aT ?_;simp only [au,sT];refine aH 14 (by kernel_rfl) rfl (fun K0 hK0=>?_);go_simp;obtain ⟨w6,hw6⟩:∃ w6,w6=w5.setCell ⟨b,1,none⟩ (.slice (some ⟨g5,0,none⟩) n5 c5):=⟨_,rfl⟩;rw [← hw6] at HE HKe HKs ⊢;refine hK0.out _ _ ⟨HKs.out.cell y0 hgl,HKs.out.cell y1 hgl,HKs.out.cell y2 hgl,HKs.out.cell y3 hgl,HKs.out.cell y4 hgl,HKs.out.cell y5 hgl,HKs.out.cell y6 hgl,HKs.out.cell y7 hgl,HKs.out.cell y8 hgl,HKs.out.cell y9 hgl⟩ (fun hHeld=>?_);refine wpAnyH_done (by kernel_rfl) ?_ _;clear hHeld hK0 K0 hw6 t1 y0 y1 y2 y3 y4 y5 y6 y7 y8 y9 c5b fz5;(go_wp2_with fail);go_roundw
          case rel=>exact ⟨j+1,_,_,by go_num,by omega,HE,HKe,HVe,HLn⟩
          case measure=>simp [intOf];omega
         ·go_simp;refine hK0.out _ _ ⟨HKb.out.cell y0 (by simp),HKb.out.cell y1 (by simp),HKb.out.cell y2 (by simp),HKb.out.cell y3 (by simp),HKb.out.cell y4 (by simp),HKb.out.cell y5 (by simp),HKb.out.cell y6 (by simp),HKb.out.cell y7 (by simp),HKb.out.cell y8 (by simp),HKb.out.cell y9 (by simp)⟩ (fun hHeld=>?_);clear hK0 K0;(try simp only [sT,Act.put]);replace t1:=((aa.refl [] w4).alloc (.cells #[.int .i64 x.i,.int .i64 x.q,.string (ak x.n),.int .i64 x.v.c,.int .i64 x.v.s,.int .i64 x.v.r,.string (ak x.v.p),.int .u64 x.v.d,.slice a4 n4 c4,.int .i64 x.v.m] 155)).cell t1 (by simp);refine aH 4 (by kernel_rfl) rfl (fun K0 hK0=>?_);go_simp;refine hK0.out _ _ hHeld (fun hHeld=>?_);clear hK0 K0;(try simp only [sT,Act.put]);refine aH 11 (by kernel_rfl) rfl (fun K0 hK0=>?_);refine fO (by rfl) _ _ (by rfl) 0 _ X' (by simp [Act.eval]) (HT3.out.kept HKb.out).row ⟨w4.heap.size,0,none⟩ 1 1 [(x,.slice a4 n4 c4)] (by simp [Act.eval]) rfl HNw (by intro y hy;simp at hy;subst hy;rfl) (by omega) HLe.out (Nat.zero_le _) ?_;intro g5 n5 c5 w5 hR5 hg5 hat5;have hP5:=(HT3.out.kept HKb.out).push (x:=x) ((HO4.out.toP (P:=fun k=>w.heap.size≤k) (fun j hj=>Nat.le_trans HK3.out.size hj)).kept ((aa.refl [] w4).alloc _)) hR5 hg5 hat5;have HE:Hid (eH (fun k=>w.heap.size≤k) (w5.setCell ⟨b,1,none⟩ (.slice (some ⟨g5,0,none⟩) n5 c5)) b sz (.slice (some ⟨g5,0,none⟩) n5 c5) (X'++[(x,.slice a4 n4 c4)]) (L.take (j+1))):=by show eH _ _ _ _ _ _ _;rw [fR HX.out];exact hP5.1
          have HKe:Hid (aa [] w (w5.setCell ⟨b,1,none⟩ (.slice (some ⟨g5,0,none⟩) n5 c5))):=(HK3.out.trans HKb.out (by simp)).trans hP5.2.1 (fun k hk=>.inr (HV.out k hk))
          have HVe:Hid (∀ k∈aW b (.slice (some ⟨g5,0,none⟩) n5 c5),w.heap.size≤k):=fun k hk=>by
           rcases List.mem_cons.1 hk with rfl | hk
           ·exact HVb.out
           ·rw [show k=g5 by simpa [Value.ownBlock] using hk];rcases hat5 with e | e
            ·exact HV.out _ (by simp [aW,e])
            ·rw [e];exact (HK3.out.trans HKb.out (by simp)).size
          have HKr:Hid (aa (aW b (.slice ao3 n3 c3)) wr w5):=(HKb.out.mono (by simp)).grown hg5 (fun k hk=>.inl (by simp [aW,hk]));have HKs:Hid (aa (aW b (.slice ao3 n3 c3)) wr (w5.setCell ⟨b,1,none⟩ (.slice (some ⟨g5,0,none⟩) n5 c5))):=HKr.out.setCell (.inl (by simp [aW])) _;have f5:=hP5.2.2;have c5b:=ag (k:=1) f5 rfl;have fz5:=aj f5 1;have hgl:g4 ∉ aW b (.slice ao3 n3 c3):=HGl.out;clear hR5 hg5 hat5 hP5 f5;refine hK0.out _ _ ⟨HKr.out.cell y0 hgl,HKr.out.cell y1 hgl,HKr.out.cell y2 hgl,HKr.out.cell y3 hgl,HKr.out.cell y4 hgl,HKr.out.cell y5 hgl,HKr.out.cell y6 hgl,HKr.out.cell y7 hgl,HKr.out.cell y8 hgl,HKr.out.cell y9 hgl⟩ (fun hHeld=>?_);clear hK0 K0;(try simp only [sT,Act.put]);refine aU [12,13] (by rfl) (by kernel_rfl) (fun _ _ _ _ _ h=>h) hHeld ?_
          iterate 2
           refine yk ?_ rfl (Or.inl ⟨by rfl,?_⟩) ?_;rotate_left
           ·intro w9 hSw;(try dsimp only at hSw);go_simp;(try with_reducible rfl)
           try simp only [sT,Act.put]
          refine aT ?_;simp only [au,sT];refine aH 14 (by kernel_rfl) rfl (fun K0 hK0=>?_);go_simp;obtain ⟨w6,hw6⟩:∃ w6,w6=w5.setCell ⟨b,1,none⟩ (.slice (some ⟨g5,0,none⟩) n5 c5):=⟨_,rfl⟩;rw [← hw6] at HE HKe HKs ⊢;refine hK0.out _ _ ⟨HKs.out.cell y0 hgl,HKs.out.cell y1 hgl,HKs.out.cell y2 hgl,HKs.out.cell y3 hgl,HKs.out.cell y4 hgl,HKs.out.cell y5 hgl,HKs.out.cell y6 hgl,HKs.out.cell y7 hgl,HKs.out.cell y8 hgl,HKs.out.cell y9 hgl⟩ (fun hHeld=>?_);refine wpAnyH_done (by kernel_rfl) ?_ _;clear hHeld hK0 K0 hw6 t1 y0 y1 y2 y3 y4 y5 y6 y7 y8 y9 c5b fz5;(go_wp2_with fail);go_roundw
          case rel=>exact ⟨j+1,_,_,by go_num,by omega,HE,HKe,HVe,HLn⟩
          case measure=>simp [intOf];omega
    ·have hlt':¬ (j:Int) < n:=by omega
     have HE:Hid (eH (fun k=>w.heap.size≤k) wj b sz v X' L):=by have h:=HT.out;rw [List.take_of_length_le (by rw [HCl.out];omega)] at h;exact h
     have HO:Hid (eS L):=by have h:=HLd.out;rw [List.take_of_length_le (by rw [HCl.out];omega)] at h;exact h
     (go_wp2_with fail);go_ret2
     exact .inl ⟨sz,b,v,X',rfl,HSz.out,by rw [HCl.out];exact HNs.out,HO.out,rfl,HE.out,HK.out,HV.out⟩
  ·have hn':(sz:Int) < n:=by omega
   (go_wp2_with fail);go_ret2
   exact .inr (.inr ⟨HSz.out,fun h=>by have h1:=h.1;rw [HCl.out] at h1;omega,rfl,HK1.out⟩)
 ·obtain rfl:=hW2.symm;clear cN;(go_wp2_with fail);go_ret2
  exact .inr (.inl ⟨hs,rfl,aa.refl _ _⟩)
end Go.Proofs.YtgpnlidnbldiiaaGreat
