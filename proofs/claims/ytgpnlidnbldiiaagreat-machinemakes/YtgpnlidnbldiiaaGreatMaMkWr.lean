/-
  MachineMakes: the walk.
-/
import Derived.Test.YtgpnlidnbldiiaaGreatQ2r
import Derived.Test.YtgpnlidnbldiiaaGreatW2r
namespace Go.Proofs.YtgpnlidnbldiiaaGreat
open Go.RowKit
def EP (D:List Nat) (al sz:Int) (w:World) (r:Except Int Ma) (q:Option Addr) (ev:Int) (w':World):Prop :=
 aa [] w w'∧((∃ n,r=.error n∧q=none∧ev=n)∨∃ (m:Ma) (b:Nat) (p:Pl) (F:List Nat),r=.ok m∧q=some ⟨b,0,none⟩∧ev=0∧ay w w' F D b p al sz.toNat m)
def El (D:List Nat) (al sz:Int) (w:World) (r:Except Int Ma) (q:Option Addr) (ev:Int) (w':World):Prop :=
 aa [] w w'∧((∃ n,r=.error n∧q=none∧ev=n)∨∃ (m:Ma) (b:Nat) (p:Pl) (M:List Nat),r=.ok m∧q=some ⟨b,0,none⟩∧ev=0∧aM w w' M D b p al sz.toNat m)
theorem yt {w:World}{m:Ma}{zs:Nat}{al0:Int}(hw:qx zs al0 m) (al sz a:Int) {ao bo co:Option Addr}{n c n2 c2 n3 c3:Nat}(hE:BD w ao n c m.e) (hS:BZ w bo n2 c2 m.s) (hK:C6 w co n3 c3 m.g.cs) :
 Calls Tryz.prog 17 #[.int .i64 al,.int .i64 sz,.int .i64 a,.slice ao n c,.slice bo n2 c2,.slice co n3 c3] w fun e w'=>∃ q ev,e=.returned (.tuple #[.pointer q,.int .i64 ev])∧Hid (EP [] al sz w (lV al sz a m.e m.s m.g.cs) q ev w'):=by
 refine (uU (D:=[]) (fun k hk=>by cases hk) hw al sz a hE hS hK).mono fun e w' hd=>?_;rcases hd with ⟨n,hr,rfl,hk⟩ | ⟨m',hr,b,p,F,rfl,hL,_⟩
 ·exact ⟨none,n,rfl,hk,.inl ⟨n,hr,rfl,rfl⟩⟩
 ·exact ⟨_,0,rfl,hL.keeps,.inr ⟨m',b,p,F,hr,rfl,rfl,hL⟩⟩
theorem ww {w:World}{m:Ma}{zs:Nat}{al0:Int}(hw:qx zs al0 m) (al sz a:Int) {ao bo co:Option Addr}{n c n2 c2 n3 c3:Nat}(hE:BD w ao n c m.e) (hS:BZ w bo n2 c2 m.s) (hK:C6 w co n3 c3 m.g.cs) :
 Calls Tryz.prog 24 #[.int .i64 al,.int .i64 sz,.int .i64 a,.slice ao n c,.slice bo n2 c2,.slice co n3 c3] w fun e w'=>∃ q ev,e=.returned (.tuple #[.pointer q,.int .i64 ev])∧Hid (El [] al sz w (lV al sz a m.e m.s m.g.cs) q ev w'):=by
 refine (yB (D:=[]) (fun k hk=>by cases hk) hw al sz a hE hS hK).mono fun e w' hd=>?_;rcases hd with ⟨n,hr,rfl,hk⟩ | ⟨m',hr,b,p,F,rfl,hL⟩
 ·exact ⟨none,n,rfl,hk,.inl ⟨n,hr,rfl,rfl⟩⟩
 ·exact ⟨_,0,rfl,hL.keeps,.inr ⟨m',b,p,F,hr,rfl,rfl,hL⟩⟩
theorem Cj {al sz a:Int}{L:List Ep}{S:List Se}{cs:List aV}{n:Int}(h:lV al sz a L S cs=.error n):n=1∨n=4:=by
 unfold lV at h;split at h
 ·cases h;simp
 ·split at h
  ·cases h;simp
  ·split at h
   ·cases h;simp
   ·split at h
    ·cases h;simp
    ·cases hg:bQ ba cs with
     | none=>rw [hg] at h;cases h;simp
     | some G =>
       rw [hg] at h;have h':(if a < 0∨1099511627776 < a then (.error 4:Except Int Ma) else .ok ⟨a,G,S,dZ L a⟩)=.error n:=h;split at h'
       ·cases h';simp
       ·cases h'
theorem qL:∀ (D:List Rm) {m:Ma},vK 3 m→vK 3 (kr 2 3 m D)
 | [],_,h=>h
 | x :: D,_,h=>qL D (AC (by omega) (by omega) h x.r)
def EC (W:World) (N:Nat) (bm:Nat) (pm:Pl) (z:Pp) (m:Ma) (E:List Rm) (iv:Value) (wr:World):Prop:=∃ j:Nat,iv=.int .i64 (j:Int)∧j≤E.length∧Hid (sx W N wr bm pm z m (kr 2 3 m (E.take j)) (kr 2 3 m (E.take j)) (.slice none 0 0))
set_option linter.unusedSimpArgs false in
set_option maxHeartbeats 32000000 in
set_option maxRecDepth 100000 in
theorem sh (W:World) (ao:Option Addr) (n c:Nat) (D:List Rm) (hD:BO W ao n c D) (bo:Option Addr) (n2 c2:Nat) (E:List Rm) (hE:BO W bo n2 c2 E) (cg:Cg) (_:mW W cg.mo cg.m cg.mc cg.l) :
 Calls Tryz.prog 4 #[.slice ao n c,.slice bo n2 c2,Eo cg] W fun e w'=>e=.returned (.bool true)∧aa [] W w':=by
 obtain ⟨W1,hW1⟩:∃ W1,W1=W.alloc (.cells (Dq cg).toArray 24):=⟨_,rfl⟩;have hK0:aa [] W W1:=by rw [hW1];exact (aa.refl _ _).alloc _
 have hB1:W1.heap[W.heap.size]?=some (.cells (Dq cg).toArray 24 (0,0)):=by rw [hW1];exact heap_alloc_new W _
 have HGc:Hid (∀ w',aa [] W1 w'→w'.cell? ⟨W.heap.size,1,none⟩=some (.int .i64 cg.al)∧w'.cell? ⟨W.heap.size,2,none⟩=some (.int .i64 cg.sz)∧w'.cell? ⟨W.heap.size,3,none⟩=some (.int .i64 cg.kp)):=fun w' k=>⟨k.cell (ag (k:=1) hB1 rfl) (by simp),k.cell (ag (k:=2) hB1 rfl) (by simp),k.cell (ag (k:=3) hB1 rfl) (by simp)⟩;have cW:=qJ W1;have hc:=hD.2.1;have hmx:=hD.2.2.1;unfold maxLen at hmx;have hc2:=hE.2.1;have hmx2:=hE.2.2.1;unfold maxLen at hmx2;have HD:=ah (hD.kept hK0);have HL:=ah hD.1;have HE:=ah (hE.kept hK0);have HL2:=ah hE.1;have HK0:=ah hK0;unfold Dq at hW1;unfold Eo;clear hD hE hK0 hB1;go_enter Tryz.func4,Tryz.ntmps4;go_upto_region 1 with fail
 rw [← hW1];clear hW1;go_wp2_with fail
 refine cW.mono ?_;rintro _ w1 ⟨rfl,hK1⟩;have HK1:=ah hK1;have cR:=nw w1 ao n c D (HD.out.kept hK1) 60;have cR2:=nw w1 bo n2 c2 E (HE.out.kept hK1) 60;rw [show ((60:Nat):Int)=60 from rfl] at cR cR2;clear cW hK1;by_cases hr:ou 60 D
 ·rw [mu hr] at cR;have HR:=ah hr;clear hr;by_cases hr2:ou 60 E
  ·rw [mu hr2] at cR2;have HR2:=ah hr2;have cF:=nj w1 [] (fun k hk=>by cases hk);clear hr2;(go_wp2_with fail);refine cR.mono ?_;rintro _ W0 ⟨rfl,hW0⟩;obtain rfl:=hW0.symm;clear cR;(go_wp2_with fail);refine cR2.mono ?_;rintro _ W0 ⟨rfl,hW0⟩;obtain rfl:=hW0.symm;clear cR2;(go_wp2_with fail);refine cF.mono ?_;rintro _ w2 ⟨b,p,F,rfl,hLv⟩;have cD:=xE (w2.alloc (.cells #[.int .i64 0,.int .i64 1,.int .i64 2] 3)) F (hLv.kept ((aa.refl [] w2).alloc _)).lt _ 3 3 [0,1,2] (mW.lit w2 [0,1,2] 3 #[.int .i64 0,.int .i64 1,.int .i64 2] 3 rfl rfl (by omega)) 2 3;have HLv:=ah (hLv.elder HK1.out);clear hLv cF;(go_wp2_with fail);refine cD.mono ?_;rintro _ w3 (⟨_,bd,pd,M,rfl,hLd⟩ | ⟨hno,_⟩)
   ·have HTw:=ah (xL HLv.out hLd);obtain ⟨z,hz⟩:∃ z:Pp,z=⟨b,p,bd,pd⟩:=⟨_,rfl⟩;rw [← hz] at HTw;obtain ⟨hzb,hzc⟩:b=z.b∧bd=z.c:=by rw [hz];exact ⟨rfl,rfl⟩
    rw [hzb,hzc];clear hLd cD hz hzb hzc HLv;(go_wp2_with fail);go_loopw [10] (fun iv wr=>EO W1 z 2 3 (jj [0,1,2]) D iv wr) (fun iv _=>n - (intOf iv).toNat)
    case atStart=>exact ⟨0,rfl,Nat.zero_le _,HTw⟩
    case round =>
     obtain ⟨i,rfl,hi,HTr⟩:=hrel;have hil:i≤n:=by rw [← HL.out];exact hi
     by_cases hlt:i < n
     ·have hlt':(i:Int) < n:=by omega
      have hic:i≤c:=by omega
      have hiD:i < D.length:=by rw [HL.out];exact hlt
      obtain ⟨g,o,he,hat⟩:=HD.out.2.2.2.1 i hiD;subst he;have HX:Hid (dE W1 D[i]):=⟨HD.out.2.2.2.2 _ (List.getElem_mem hiD),HR.out.2 _ (List.getElem_mem hiD)⟩;have HG:=ah (kA (al:=2) (sz:=3) (uT [0,1,2]) hi (by have:=HR.out.1;omega));have HN:Hid (i≤60):=by have:=HR.out.1;show _≤_;omega
      have HT:=ah (om (al:=2) (sz:=3) (m:=jj [0,1,2]) hiD);have HAt:=ah hat;generalize D[i]=y at *;generalize kr 2 3 (jj [0,1,2]) (D.take i)=mi at *;obtain ⟨c0,c1,c2,c3,c4,c5,c6,c7,c8,c9,c10⟩:=hat.kept HTr.out.keeps (by simp);have cA:=wM HTr.out (by have:=HG.out.g;have:=HN.out;omega) (by have:=HG.out.e;have:=HN.out;omega) y HX.out;unfold eh at cA;clear hat;(go_wp2_with fail);refine cA.mono ?_;rintro _ w5 ⟨a5,n5,c5',rfl,_,HT5,_⟩;have cB:=tG HT5.out (by have:=HG.out.g;have:=HN.out;omega) (by have:=HG.out.e;have:=HN.out;omega) y HX.out;unfold eh at cB;clear cA c0 c1 c2 c3 c4 c5 c6 c7 c8 c9 c10;obtain ⟨c0,c1,c2,c3,c4,c5,c6,c7,c8,c9,c10⟩:=HAt.out.kept HT5.out.keeps (by simp);(go_wp2_with fail);refine cB.mono ?_;rintro _ w6 ⟨a6,n6,c6',rfl,_,HT6,_⟩;have HT7:=ah HT6.out.none;rw [← HT.out] at HT7;clear cB c0 c1 c2 c3 c4 c5 c6 c7 c8 c9 c10;(go_wp2_with fail);go_roundw
      case rel=>exact ⟨i+1,by go_num,by omega,HT7⟩
      case measure=>simp [intOf];omega
     ·have hlt':¬ (i:Int) < n:=by omega
      have HG:=ah (kA (al:=2) (sz:=3) (uT [0,1,2]) hi (by have:=HR.out.1;omega));have HN:Hid (i≤60):=by have:=HR.out.1;show _≤_;omega
      have HOk:=ah (qL (D.take i) (zH Cn 3));generalize kr 2 3 (jj [0,1,2]) (D.take i)=mi at *;have hcs:mi.g.cs.length≤10000:=by have:=HG.out.g;have:=HN.out;omega
      have hes:mi.e.length≤999:=by have:=HG.out.e;have:=HN.out;omega
      have HCs:=ah hcs;have HEs:=ah hes;obtain ⟨F0,M0,hL0,hLd0,hdis0,_⟩:=HTr.out;have HW:=ah hL0.w;have cAl:=ll hL0;have cSz:=ny hL0;have cAp:=gC hL0;have cE:=Cq hL0 (by omega);have cS:=fun W' (k:aa [] wr W')=>Ci (hL0.kept k);have cC:=fun W' (k:aa [] wr W')=>Cu (hL0.kept k) HCs.out;clear hL0 hLd0 hdis0 hcs hes;(go_wp2_with fail);refine cAl.mono ?_;rintro _ W0 ⟨rfl,hW0⟩;obtain rfl:=hW0.symm;clear cAl;(go_wp2_with fail);refine cSz.mono ?_;rintro _ W0 ⟨rfl,hW0⟩;obtain rfl:=hW0.symm;clear cSz;(go_wp2_with fail);refine cAp.mono ?_;rintro _ W0 ⟨rfl,hW0⟩;obtain rfl:=hW0.symm;clear cAp;(go_wp2_with fail);refine cE.mono ?_;rintro _ w5 ⟨ae,ne,ce,rfl,HEs5,HK5⟩;have cS5:=cS w5 HK5.out;clear cE cS;(go_wp2_with fail);refine cS5.mono ?_;rintro _ w6 ⟨sa,ns,cs,rfl,HSs6,HK6⟩;have HKa:=ah (HK5.out.trans HK6.out (by simp));have cC6:=cC w6 HKa.out;clear cS5 cC;(go_wp2_with fail);refine cC6.mono ?_;rintro _ w7 ⟨ac,nc,cc,rfl,HKs7,HK7⟩;have HKb:=ah (HKa.out.trans HK7.out (by simp));have HT7:=ah (HTr.out.kept HKb.out)
      have cM:Calls Tryz.prog 17 #[.int .i64 2,.int .i64 3,.int .i64 mi.a,.slice ae ne ce,.slice sa ns cs,.slice ac nc cc] w7 fun e w'=>∃ b p,e=.returned (.tuple #[.pointer (some ⟨b,0,none⟩),.int .i64 0])∧Hid (sx W1 w7.heap.size w' z.b z.p ⟨b,p,z.c,z.q⟩ mi mi mi (.slice none 0 0)):=by
       have hT:=HT7.out;obtain ⟨F1,M1,hL1,hLd1,hdis1,hu1⟩:=id hT;refine (uU (D:=M1) hLd1.lt HW.out 2 3 mi.a ((HEs5.out.kept HK6.out).kept HK7.out) (HSs6.out.kept HK7.out) HKs7.out).mono fun e w' hd=>?_;rw [AS HOk.out] at hd;rcases hd with ⟨n,hr,_⟩ | ⟨m',hr,b,p,F',rfl,hL,hF⟩
       ·cases hr
       ·cases hr
        exact ⟨b,p,rfl,At (z:=z) hL1 hLd1 hdis1 hL hF⟩
      clear cC6;(go_wp2_with fail);refine cM.mono ?_;rintro _ w8 ⟨bn,pn,rfl,HT8⟩;obtain ⟨Nn,hNn⟩:∃ Nn,Nn=w7.heap.size:=⟨_,rfl⟩;obtain ⟨zt,hzt⟩:∃ zt:Pp,zt=⟨bn,pn,z.c,z.q⟩:=⟨_,rfl⟩;rw [← hNn,← hzt] at HT8;obtain ⟨hzb,hzc⟩:bn=zt.b∧z.c=zt.c:=by rw [hzt];exact ⟨rfl,rfl⟩
      rw [hzb,hzc];have cX:=oE HT8.out HCs.out (by have:=HEs.out;omega);clear cM hNn hzt hzb hzc HT7 HEs5 HSs6 HKs7 HK5 HK6 HK7 HKa HKb;(go_wp2_with fail);refine cX.mono ?_;rintro _ w9 ⟨rfl,HK9⟩;have HT9:=ah (HT8.out.kept HK9.out);clear cX HT8 HK9;(go_wp2_with fail);go_loopw [13] (fun iv wt=>EC W1 Nn z.b z.p zt mi E iv wt) (fun iv _=>n2 - (intOf iv).toNat)
      case atStart=>exact ⟨0,rfl,Nat.zero_le _,HT9⟩
      case round =>
       obtain ⟨j,rfl,hj,HTj⟩:=hrel;have hjl:j≤n2:=by rw [← HL2.out];exact hj
       by_cases hltj:j < n2
       ·have hltj':(j:Int) < n2:=by omega
        have hjc:j≤c2:=by omega
        have hjE:j < E.length:=by rw [HL2.out];exact hltj
        obtain ⟨g,o,he,hat⟩:=HE.out.2.2.2.1 j hjE;subst he;have HX:Hid (dE W1 E[j]):=⟨HE.out.2.2.2.2 _ (List.getElem_mem hjE),HR2.out.2 _ (List.getElem_mem hjE)⟩;have HGj:=ah (kA (al:=2) (sz:=3) HG.out hj (by have:=HR2.out.1;have:=HN.out;omega));have HNj:Hid (j≤60):=by have:=HR2.out.1;show _≤_;omega
        have HT:=ah (om (al:=2) (sz:=3) (m:=mi) hjE);have HRg:Hid (∀ w',aa [] W1 w'→w'.rangeAt g (o+j*11) (oH E[j])):=fun w' hk=>t8 (hat.kept hk (by simp));generalize E[j]=y at *;generalize kr 2 3 mi (E.take j)=mj at *;clear hat;go_upto_region 20 with fail
        (try simp only [List.append_eq,List.cons_append,List.nil_append]);refine wp_region_held_drew (S:=fun w'=>w'.rangeAt g (o+j*11) (oH y)) (by kernel_rfl) (HRg.out _ (HTj.out.keeps.trans (aa.refl [] _).drew (by simp))) (fun hHeld=>?_);refine aU [0,1,2,3] (by rfl) (by kernel_rfl) (fun _ _ _ _ _ h=>h) hHeld ?_
        iterate 4
         refine yk ?_ rfl (Or.inl ⟨by rfl,?_⟩) ?_;rotate_left
         ·intro w9 hSw;go_simp;(try with_reducible rfl)
         try simp only [sT,Act.put]
        refine aT ?_;simp only [au,sT];refine tk 4 (eh y) rfl (by kernel_rfl) (fun _ _ _ h=>h) (yieldsIf_load_mid (by rfl) _ _ rfl g (o+j*11) rfl (oH y) _ (fun w9 hSw=>hSw) Tryz.underlying43 rfl jY) hHeld ?_;(try simp only [sT,Act.put]);refine aU [6,7,8,9] (by rfl) (by kernel_rfl) (fun _ _ _ _ _ h=>h) hHeld ?_
        iterate 4
         refine yk ?_ rfl (Or.inl ⟨by rfl,?_⟩) ?_;rotate_left
         ·intro w9 hSw;go_simp;(try with_reducible rfl)
         try simp only [sT,Act.put]
        refine aT ?_;simp only [au,sT];refine tk 10 (eh y) rfl (by kernel_rfl) (fun _ _ _ h=>h) (yieldsIf_load_mid (by rfl) _ _ rfl g (o+j*11) rfl (oH y) _ (fun w9 hSw=>hSw) Tryz.underlying43 rfl jY) hHeld ?_;(try simp only [sT,Act.put]);refine aH 5 (by kernel_rfl) rfl (fun K0 hK0=>?_);go_simp;refine (wU (HTj.out.kept (aa.refl [] _).drew) (by have:=HGj.out.g;have:=HN.out;have:=HNj.out;omega) (by have:=HGj.out.e;have:=HN.out;have:=HNj.out;omega) y HX.out).mono ?_;rintro _ w10 ⟨a5,n5,c5,rfl,HO5,HT5,HU5⟩;(go_wp2_with fail);refine hK0.out _ _ (HRg.out _ HT5.out.keeps) (fun hHeld=>?_);clear hK0 K0;(try simp only [sT,Act.put]);refine aH 11 (by kernel_rfl) rfl (fun K0 hK0=>?_);go_simp;refine (tg HT5.out (by have:=HGj.out.g;have:=HN.out;have:=HNj.out;omega) (by have:=HGj.out.e;have:=HN.out;have:=HNj.out;omega) y HX.out).mono ?_;rintro _ w11 ⟨a6,n6,c6,rfl,HO6,HT6,HU6⟩;have HO5':=ah (HU6.out _ _ HO5.out);(go_wp2_with fail);refine hK0.out _ _ (HRg.out _ HT6.out.keeps) (fun hHeld=>?_);clear hK0 K0;(try simp only [sT,Act.put]);have cK:=lw w11 (qH 2 mj y.r) (.slice a5 n5 c5) (.slice a6 n6 c6) HO5'.out.ko HO6.out.ko;unfold gA at cK;refine aH 12 (by kernel_rfl) rfl (fun K0 hK0=>?_);go_simp;refine cK.mono ?_;rintro _ w12 ⟨rfl,hkw⟩;have HT7:=ah (HT6.out.none.kept hkw);rw [← HT.out] at HT7;clear cK hkw;(go_wp2_with fail);refine hK0.out _ _ (HRg.out _ HT7.out.keeps) (fun hHeld=>?_);clear hK0 K0;(try simp only [sT,Act.put]);refine aU [13] (by rfl) (by kernel_rfl) (fun _ _ _ _ _ h=>h) hHeld ?_
        iterate 1
         refine yk ?_ rfl (Or.inl ⟨by rfl,?_⟩) ?_;rotate_left
         ·intro w9 hSw;go_simp;(try with_reducible rfl)
         try simp only [sT,Act.put]
        refine aT ?_;simp only [au,sT];(try simp only [sT,Act.put]);refine wpAnyH_done (by kernel_rfl) ?_ _;clear hHeld;clear HT5 HT6 HO5 HO6 HO5' HU5 HU6;(go_wp2_with fail);go_roundw
        case rel=>exact ⟨j+1,by go_num,by omega,HT7⟩
        case measure=>simp [intOf];omega
       ·have hltj':¬ (j:Int) < n2:=by omega
        have HGj:=ah (kA (al:=2) (sz:=3) HG.out hj (by have:=HR2.out.1;have:=HN.out;omega));have HNj:Hid (j≤60):=by have:=HR2.out.1;show _≤_;omega
        generalize kr 2 3 mi (E.take j)=mj at *;go_upto_region 22 with fail
        (try simp only [List.append_eq,List.cons_append,List.nil_append]);refine wp_region_held_drew (S:=fun w'=>w'.cell? ⟨W.heap.size,1,none⟩=some (.int .i64 cg.al)∧w'.cell? ⟨W.heap.size,2,none⟩=some (.int .i64 cg.sz)∧w'.cell? ⟨W.heap.size,3,none⟩=some (.int .i64 cg.kp)) (by kernel_rfl) (HGc.out _ (HTj.out.keeps.trans (aa.refl [] _).drew (by simp))) (fun hHeld=>?_);have HTjd:=ah (HTj.out.kept (aa.refl [] _).drew);refine aU [0,1,2,3,4,5,6,8,10] (by rfl) (by kernel_rfl) (fun _ _ _ _ _ h=>h) hHeld ?_
        iterate 9
         refine yk ?_ rfl (Or.inl ⟨by rfl,?_⟩) ?_;rotate_left
         ·intro w9 hSw;obtain ⟨g1,g2,g3⟩:=hSw;go_simp;(try with_reducible rfl)
         try simp only [sT,Act.put]
        refine aT ?_;simp only [au,sT];obtain ⟨F30,D30,hA30⟩:=HTjd.out.aside;refine aH 7 (by kernel_rfl) rfl (fun K0 hK0=>?_);go_simp;refine (Cq hA30 (by have:=HEs.out;omega)).mono ?_;rintro _ v30 ⟨ae30,ne30,ce30,rfl,HEa30,HKa30⟩;(go_wp2_with fail);refine hK0.out _ _ (HGc.out _ (HTjd.out.keeps.trans HKa30.out (by simp))) (fun hHeld=>?_);clear hK0 K0;(try simp only [sT,Act.put]);refine aH 9 (by kernel_rfl) rfl (fun K0 hK0=>?_);go_simp;refine (Ci (hA30.kept HKa30.out)).mono ?_;rintro _ u30 ⟨as30,ns30,cs30,rfl,HSa30,HKs30⟩;have HKb30:=ah (HKa30.out.trans HKs30.out (by simp));(go_wp2_with fail);refine hK0.out _ _ (HGc.out _ (HTjd.out.keeps.trans HKb30.out (by simp))) (fun hHeld=>?_);clear hK0 K0;(try simp only [sT,Act.put]);refine aH 11 (by kernel_rfl) rfl (fun K0 hK0=>?_);go_simp;refine (Cu (hA30.kept HKb30.out) HCs.out).mono ?_;rintro _ t30 ⟨ac30,nc30,cc30,rfl,HCa30,HKc30⟩;have HKd30:=ah (HKb30.out.trans HKc30.out (by simp));have hEa30:=(HEa30.out.kept HKs30.out).kept HKc30.out;have hSa30:=HSa30.out.kept HKc30.out;(go_wp2_with fail);refine hK0.out _ _ (HGc.out _ (HTjd.out.keeps.trans HKd30.out (by simp))) (fun hHeld=>?_);clear hK0 K0;(try simp only [sT,Act.put]);refine aH 12 (by kernel_rfl) rfl (fun K0 hK0=>?_);go_simp;refine (yt HW.out cg.al cg.sz cg.kp hEa30 hSa30 HCa30.out).mono ?_;rintro _ s30 ⟨q30,ev30,rfl,HQ30⟩;have HKe30:=ah (HKd30.out.trans HQ30.out.1 (by simp));(go_wp2_with fail);refine hK0.out _ _ (HGc.out _ (HTjd.out.keeps.trans HKe30.out (by simp))) (fun hHeld=>?_);clear hK0 K0;(try simp only [sT,Act.put]);refine aU [13,14,15,16,17] (by rfl) (by kernel_rfl) (fun _ _ _ _ _ h=>h) hHeld ?_
        iterate 5
         refine yk ?_ rfl (Or.inl ⟨by rfl,?_⟩) ?_;rotate_left
         ·intro w9 hSw;obtain ⟨g1,g2,g3⟩:=hSw;go_simp;(try with_reducible rfl)
         try simp only [sT,Act.put]
        refine aT ?_;simp only [au,sT];(try simp only [sT,Act.put]);refine wpAnyH_done (by kernel_rfl) ?_ _;clear hHeld;have HT22:=ah (HTjd.out.kept HKe30.out);have HW22:=ah HKe30.out;clear hA30 HEa30 HSa30 HCa30 HKa30 HKs30 HKb30 HKc30 HKd30 hEa30 hSa30;go_upto_region 23 with fail
        (try simp only [List.append_eq,List.cons_append,List.nil_append]);refine wp_region_held_drew (S:=fun w'=>w'.cell? ⟨W.heap.size,1,none⟩=some (.int .i64 cg.al)∧w'.cell? ⟨W.heap.size,2,none⟩=some (.int .i64 cg.sz)∧w'.cell? ⟨W.heap.size,3,none⟩=some (.int .i64 cg.kp)) (by kernel_rfl) (HGc.out _ (HT22.out.keeps.trans (aa.refl [] _).drew (by simp))) (fun hHeld=>?_);have HT22d:=ah (HT22.out.kept (aa.refl [] _).drew);refine aU [0,1,2,3,4,5,6,8,10] (by rfl) (by kernel_rfl) (fun _ _ _ _ _ h=>h) hHeld ?_
        iterate 9
         refine yk ?_ rfl (Or.inl ⟨by rfl,?_⟩) ?_;rotate_left
         ·intro w9 hSw;obtain ⟨g1,g2,g3⟩:=hSw;go_simp;(try with_reducible rfl)
         try simp only [sT,Act.put]
        refine aT ?_;simp only [au,sT];obtain ⟨F31,D31,hA31⟩:=HT22d.out.aside;refine aH 7 (by kernel_rfl) rfl (fun K0 hK0=>?_);go_simp;refine (Cq hA31 (by have:=HEs.out;omega)).mono ?_;rintro _ v31 ⟨ae31,ne31,ce31,rfl,HEa31,HKa31⟩;(go_wp2_with fail);refine hK0.out _ _ (HGc.out _ (HT22d.out.keeps.trans HKa31.out (by simp))) (fun hHeld=>?_);clear hK0 K0;(try simp only [sT,Act.put]);refine aH 9 (by kernel_rfl) rfl (fun K0 hK0=>?_);go_simp;refine (Ci (hA31.kept HKa31.out)).mono ?_;rintro _ u31 ⟨as31,ns31,cs31,rfl,HSa31,HKs31⟩;have HKb31:=ah (HKa31.out.trans HKs31.out (by simp));(go_wp2_with fail);refine hK0.out _ _ (HGc.out _ (HT22d.out.keeps.trans HKb31.out (by simp))) (fun hHeld=>?_);clear hK0 K0;(try simp only [sT,Act.put]);refine aH 11 (by kernel_rfl) rfl (fun K0 hK0=>?_);go_simp;refine (Cu (hA31.kept HKb31.out) HCs.out).mono ?_;rintro _ t31 ⟨ac31,nc31,cc31,rfl,HCa31,HKc31⟩;have HKd31:=ah (HKb31.out.trans HKc31.out (by simp));have hEa31:=(HEa31.out.kept HKs31.out).kept HKc31.out;have hSa31:=HSa31.out.kept HKc31.out;(go_wp2_with fail);refine hK0.out _ _ (HGc.out _ (HT22d.out.keeps.trans HKd31.out (by simp))) (fun hHeld=>?_);clear hK0 K0;(try simp only [sT,Act.put]);refine aH 12 (by kernel_rfl) rfl (fun K0 hK0=>?_);go_simp;refine (ww HW.out cg.al cg.sz cg.kp hEa31 hSa31 HCa31.out).mono ?_;rintro _ s31 ⟨q31,ev31,rfl,HQ31⟩;have HKe31:=ah (HKd31.out.trans HQ31.out.1 (by simp));(go_wp2_with fail);refine hK0.out _ _ (HGc.out _ (HT22d.out.keeps.trans HKe31.out (by simp))) (fun hHeld=>?_);clear hK0 K0;(try simp only [sT,Act.put]);refine aU [13,14,15,16,17] (by rfl) (by kernel_rfl) (fun _ _ _ _ _ h=>h) hHeld ?_
        iterate 5
         refine yk ?_ rfl (Or.inl ⟨by rfl,?_⟩) ?_;rotate_left
         ·intro w9 hSw;obtain ⟨g1,g2,g3⟩:=hSw;go_simp;(try with_reducible rfl)
         try simp only [sT,Act.put]
        refine aT ?_;simp only [au,sT];(try simp only [sT,Act.put]);refine wpAnyH_done (by kernel_rfl) ?_ _;clear hHeld;have HT23:=ah (HT22d.out.kept HKe31.out);have HW23:=ah HKe31.out;clear hA31 HEa31 HSa31 HCa31 HKa31 HKs31 HKb31 HKc31 HKd31 hEa31 hSa31;have cX:=oE HT23.out (by have:=HGj.out.g;have:=HN.out;have:=HNj.out;omega) (by have:=HGj.out.e;have:=HN.out;have:=HNj.out;omega);have HKf:=ah (HK0.out.trans HT23.out.keeps (by simp));have HKs:=ah ((aa.refl [] s30).drew.trans HKe31.out (by simp));rcases HQ30.out.2 with ⟨en,hr1,rfl,rfl⟩ | ⟨m1,b1,p1,F1,hr1,rfl,rfl,hL1⟩
        ·rcases HQ31.out.2 with ⟨en2,hr2,rfl,rfl⟩ | ⟨m2,b2,p2,M2,hr2,_,_,_⟩
         ·have he:ev31=ev30:=by rw [hr1] at hr2;cases hr2;rfl
          subst he;have hen:=Cj hr1;clear hr1 hr2 HQ30 HQ31 HT22 HT22d HTj HTjd HGc HW;rcases hen with rfl | rfl
          all_goals
           (go_wp2_with fail);refine cX.mono ?_;rintro _ w20 ⟨rfl,HK20⟩;have HKg:=ah (HKf.out.trans HK20.out (by simp));clear cX;(go_wp2_with fail);go_ret
           exact ⟨rfl,HKg.out⟩
         ·rw [hr1] at hr2;cases hr2
        ·rcases HQ31.out.2 with ⟨en2,hr2,_,_⟩ | ⟨m2,b2,p2,M2,hr2,rfl,rfl,hL2⟩
         ·rw [hr1] at hr2;cases hr2
         ·have he:m2=m1:=by rw [hr1] at hr2;cases hr2;rfl
          subst he;have hms:=yF hr1;have HY:=ah (And.intro hL1 hL2);have HB:Hid (m2.g.cs.length≤10000∧m2.e.length≤1000):=⟨by rw [hms.1];exact HCs.out,by have:=HEs.out;omega⟩;clear hr1 hr2 HQ30 HQ31 HT22 HT22d HTj HTjd HGc HW hL1 hL2 hms;(go_wp2_with fail);refine cX.mono ?_;rintro _ w20 ⟨rfl,HK20⟩;have HKg:=ah (HKf.out.trans HK20.out (by simp));have cY:=nh (HY.out.1.kept (HKs.out.trans HK20.out (by simp))) (HY.out.2.kept HK20.out) HB.out.1 HB.out.2;clear cX;(go_wp2_with fail);refine cY.mono ?_;rintro _ w21 ⟨rfl,hK21⟩;have HKh:=ah (HKg.out.trans hK21 (by simp));clear cY hK21;(go_wp2_with fail);go_ret
          exact ⟨rfl,HKh.out⟩
   ·exact absurd ⟨Cn,by omega,by omega,by omega,by omega⟩ hno
  ·rw [fE hr2] at cR2;clear hr2;(go_wp2_with fail);refine cR.mono ?_;rintro _ W0 ⟨rfl,hW0⟩;obtain rfl:=hW0.symm;clear cR;(go_wp2_with fail);refine cR2.mono ?_;rintro _ W0 ⟨rfl,hW0⟩;obtain rfl:=hW0.symm;clear cR2;(go_wp2_with fail);go_ret
   exact ⟨rfl,HK0.out.trans HK1.out (by simp)⟩
 ·rw [fE hr] at cR;clear hr cR2;(go_wp2_with fail);refine cR.mono ?_;rintro _ W0 ⟨rfl,hW0⟩;obtain rfl:=hW0.symm;clear cR;(go_wp2_with fail);go_ret
  exact ⟨rfl,HK0.out.trans HK1.out (by simp)⟩
end Go.Proofs.YtgpnlidnbldiiaaGreat
