/-
  What a machine tells is what the document's tells.
-/
import Derived.Test.YtgpnlidnbldiiaaGreatW6r
import Derived.Test.YtgpnlidnbldiiaaGreatW10r
import Derived.Test.YtgpnlidnbldiiaaGreatQ2r
import Derived.Test.YtgpnlidnbldiiaaGreatQ19r
import Derived.Test.YtgpnlidnbldiiaaGreatW1r
import Derived.Test.YtgpnlidnbldiiaaGreatW3r
import Derived.Test.YtgpnlidnbldiiaaGreatW4r
namespace Go.Proofs.YtgpnlidnbldiiaaGreat
open Go.RowKit
structure CN (w:World) (b:Nat) (p:Pl) (a al:Int) (sz:Nat) (aC aE aS:Option Addr) (nC cC nE cE nS cS:Nat):Prop where
 x0:w.cell? ⟨b,0,none⟩=some (.int .i64 a)
 x1:w.cell? ⟨b,1,none⟩=some (.slice aC nC cC)
 x4:w.cell? ⟨b,4,none⟩=some (.pointer (some ⟨p.t,0,none⟩))
 x5:w.cell? ⟨b,5,none⟩=some (.pointer (some ⟨p.e,0,none⟩))
 e0:w.cell? ⟨p.e,0,none⟩=some (.int .i64 al)
 e1:w.cell? ⟨p.e,1,none⟩=some (.slice aE nE cE)
 t0:w.cell? ⟨p.t,0,none⟩=some (.int .i64 (sz:Int))
 t1:w.cell? ⟨p.t,1,none⟩=some (.slice aS nS cS)
theorem CN.kept {w w':World}{b:Nat}{p:Pl}{a al:Int}{sz:Nat}{aC aE aS:Option Addr}{nC cC nE cE nS cS:Nat}(h:CN w b p a al sz aC aE aS nC cC nE cE nS cS) (k:aa [] w w'):CN w' b p a al sz aC aE aS nC cC nE cE nS cS :=
 ⟨k.cell h.x0 (by simp),k.cell h.x1 (by simp),k.cell h.x4 (by simp),k.cell h.x5 (by simp),k.cell h.e0 (by simp),k.cell h.e1 (by simp),k.cell h.t0 (by simp),k.cell h.t1 (by simp)⟩
theorem aM.look {w0 w:World}{M D:List Nat}{b:Nat}{p:Pl}{al:Int}{sz:Nat}{m:Ma}(h:aM w0 w M D b p al sz m):∃ aC aE aS nC cC nE cE nS cS K Y X,CN w b p m.a al sz aC aE aS nC cC nE cE nS cS∧iC w aC nC cC K∧K.map Prod.fst=m.g.cs∧nC=m.g.cs.length∧qB w aE nE cE Y∧Y.map Prod.fst=m.e∧vo w aS nS cS X∧X.map Prod.fst=m.s∧jS w0.heap.size w p.e al m.e:=by
 obtain ⟨v,vL,vR,K,vt,X,h1,_,_,_,_,h6,_⟩:=h;obtain ⟨aC,cC,rfl,hS,_⟩:=h1.g.row.sl h1.g.own;obtain ⟨g,cE,Y,e1,hE,hY,_,_,_⟩:=h1.e.open h6.e.1;obtain ⟨aS,cS,rfl,hX⟩:=h1.t.row.t.sl (fun x hx=>(h1.t.own x hx).ko);have hat:=h1.g.at_;have htt:=h1.t.at_;refine ⟨aC,some ⟨g,0,none⟩,aS,_,cC,_,cE,_,cS,K,Y,X,⟨ag (k:=0) hat rfl,ag (k:=1) hat rfl,ag (k:=4) hat rfl,ag (k:=5) hat rfl,ag (k:=0) e1 rfl,ag (k:=1) e1 rfl,ag (k:=0) htt rfl,ag (k:=1) htt rfl⟩,hS,h1.g.com,?_,hE,hY,hX,h1.t.ses,h1.e⟩;rw [← h1.g.com,List.length_map]
set_option linter.unusedSimpArgs false in
set_option maxHeartbeats 64000000 in
set_option maxRecDepth 100000 in
theorem nh {w0 w00 w:World}{F D M D2:List Nat}{b c:Nat}{p q:Pl}{al:Int}{sz:Nat}{m:Ma}(hP:ay w0 w F D b p al sz m) (hQ:aM w00 w M D2 c q al sz m) (hl:m.g.cs.length≤10000) (hel:m.e.length≤1000):Calls Tryz.prog 15 #[.pointer (some ⟨b,0,none⟩),.pointer (some ⟨c,0,none⟩)] w fun e w'=>e=.returned (.bool true)∧aa [] w w':=by
 have hwr:IntKind.i64.wrap (m.a+1)=m.a+1:=IntWalk.i64_in _ (by have:=hP.w.a0;have:=hP.w.a1;omega);obtain ⟨aC,aE,aS,nC,cC,nE,cE,nS,cS,K,Y,X,hC,hK,eK,eC,hE,eY,hS,eX,hD⟩:=hQ.look;have HC:=ah hC;have HK:=ah hK;have HE:=ah hE;have HS:=ah hS;have HD:=ah hD;have HeK:=ah eK;have HeY:=ah eY;have HeX:=ah eX;have HP:=ah hP;have HOk:=ah hP.w.e;have HEl:=ah hel;have cHd:∀ W,aa [] w W→Calls Tryz.prog 28 #[.pointer (some ⟨b,0,none⟩)] W fun e w'=>e=.returned (.int .i64 (nC:Int))∧w'=W:=fun W hk=>by rw [eC];exact nB (hP.kept hk)
 have cA:=fun W (hk:aa [] w W)=>gC (hP.kept hk);have cL:=fun W (hk:aa [] w W)=>ll (hP.kept hk);have cZ:=fun W (hk:aa [] w W)=>ny (hP.kept hk);have cEp:=fun W (hk:aa [] w W)=>jV (hP.kept hk) hel;have cSe:=fun W (hk:aa [] w W)=>iE (hP.kept hk);have cCo:=fun W (hk:aa [] w W)=>ju (hP.kept hk) hl;have cU:=fun W (hk:aa [] w W)=>rS (hP.kept hk) hel;have cAt:=fun W (hk:aa [] w W) z=>yK (hP.kept hk) hel z;have cDU:=fun W (hk:aa [] w W)=>sj _ W q.e al m.e (hD.kept hk) hP.w.e.1 (by omega);have cDA:=fun W (hk:aa [] w W) z=>yO _ W q.e al m.e (hD.kept hk) hP.w.e (by omega) z;obtain ⟨x0,x1,x4,x5,e0,e1,t0,t1⟩:=hC;clear hP hQ hK hE hS hD eK eC eY eX hl hel;generalize hma:m.a=ma at *;clear hma;generalize bc (fd m.e)=un at *;go_enter Tryz.func15,Tryz.ntmps15;go_wp2_with fail
 clear x0 x1 x4 x5 e0 e1 t0 t1;simp only [List.append_eq,List.cons_append,List.nil_append];refine wp_region_held_drew (S:=fun w'=>CN w' c q ma al sz aC aE aS nC cC nE cE nS cS) (by kernel_rfl) (HC.out.kept (aa.refl [] _).drew) (fun hHeld=>?_);refine rY (fuel':=129) (l':=#[false,false,false,false,false,false,false,false,false,false,false,false,false,false,false,false,false,false,false,false,false,false,false,false,false,false,false,false,false,false,false,false,false,false,false,false,false,false,false,false,false,false,false,false,false,false,false,false,false,false,false,false,false,false,false,false,false,false,false,false,false,false,false,false,false,false,false,false,false,false,false,false,false,false,false,false,false,false,false,false,false,false,false,false,false,false,false,false,false,false,false,false,false,false,false,false,false,false,false,false,false,false,false,false,false,false,false,false,false,false,false,false,false,false,false,false,false,false,false,false,false,false,false,false,false,false,false,false,false]) (by rfl) (by rfl) ?_;have HK0:Hid (aa [] w w.drew):=(aa.refl [] _).drew;refine aU [0,1,2,3,5,6,7,8] (by rfl) (by kernel_rfl) (fun _ _ _ _ _ h=>h) hHeld ?_
 iterate 8
  refine yk ?_ rfl (Or.inl ⟨by rfl,?_⟩) ?_;rotate_left
  ·intro w9 hSw;obtain ⟨x0,x1,x4,x5,e0,e1,t0,t1⟩:=hSw;go_simp;(try with_reducible rfl)
  try simp only [sT,Act.put]
 refine aT ?_;simp only [au,sT];refine aH 4 (by kernel_rfl) rfl (fun K0 hK0=>?_);go_simp;refine (cA _ HK0.out).mono ?_;rintro _ W0 ⟨rfl,hW0⟩;obtain rfl:=hW0.symm;clear cA;go_wp2_with fail
 refine hK0.out _ _ (HC.out.kept HK0.out) (fun hHeld=>?_);clear hK0 K0;try simp only [sT,Act.put]
 refine aU [9,10,11,12,14,15,16] (by rfl) (by kernel_rfl) (fun _ _ _ _ _ h=>h) hHeld ?_
 iterate 7
  refine yk ?_ rfl (Or.inl ⟨by rfl,?_⟩) ?_;rotate_left
  ·intro w9 hSw;obtain ⟨x0,x1,x4,x5,e0,e1,t0,t1⟩:=hSw;go_simp;(try with_reducible rfl)
  try simp only [sT,Act.put]
 refine aT ?_;simp only [au,sT]
 as_aux_lemma =>
  refine aU [17,18,19,20] (by rfl) (by kernel_rfl) (fun _ _ _ _ _ h=>h) hHeld ?_
  iterate 4
   refine yk ?_ rfl (Or.inl ⟨by rfl,?_⟩) ?_;rotate_left
   ·intro w9 hSw;obtain ⟨x0,x1,x4,x5,e0,e1,t0,t1⟩:=hSw;go_simp;(try with_reducible rfl)
   try simp only [sT,Act.put]
  refine aT ?_;simp only [au,sT];refine aH 13 (by kernel_rfl) rfl (fun K0 hK0=>?_);go_simp;refine (cL _ HK0.out).mono ?_;rintro _ W0 ⟨rfl,hW0⟩;obtain rfl:=hW0.symm;clear cL;(go_wp2_with fail);refine hK0.out _ _ (HC.out.kept HK0.out) (fun hHeld=>?_);clear hK0 K0;(try simp only [sT,Act.put]);refine aU [21,22,23,24,26,27,28,29,30,31,32] (by rfl) (by kernel_rfl) (fun _ _ _ _ _ h=>h) hHeld ?_
  iterate 11
   refine yk ?_ rfl (Or.inl ⟨by rfl,?_⟩) ?_;rotate_left
   ·intro w9 hSw;obtain ⟨x0,x1,x4,x5,e0,e1,t0,t1⟩:=hSw;go_simp;(try with_reducible rfl)
   try simp only [sT,Act.put]
  refine aT ?_;simp only [au,sT]
  as_aux_lemma =>
   refine aH 25 (by kernel_rfl) rfl (fun K0 hK0=>?_);go_simp;refine (cZ _ HK0.out).mono ?_;rintro _ W0 ⟨rfl,hW0⟩;obtain rfl:=hW0.symm;clear cZ;(go_wp2_with fail);refine hK0.out _ _ (HC.out.kept HK0.out) (fun hHeld=>?_);clear hK0 K0;(try simp only [sT,Act.put]);refine aU [33,34,35,36,38,39,40,41,42,43] (by rfl) (by kernel_rfl) (fun _ _ _ _ _ h=>h) hHeld ?_
   iterate 10
    refine yk ?_ rfl (Or.inl ⟨by rfl,?_⟩) ?_;rotate_left
    ·intro w9 hSw;obtain ⟨x0,x1,x4,x5,e0,e1,t0,t1⟩:=hSw;go_simp;(try with_reducible rfl)
    try simp only [sT,Act.put]
   refine aT ?_;simp only [au,sT];refine aH 37 (by kernel_rfl) rfl (fun K0 hK0=>?_);go_simp;refine (cHd _ HK0.out).mono ?_;rintro _ W0 ⟨rfl,hW0⟩;obtain rfl:=hW0.symm;clear cHd;(go_wp2_with fail);refine hK0.out _ _ (HC.out.kept HK0.out) (fun hHeld=>?_);clear hK0 K0;(try simp only [sT,Act.put]);refine aU [44,45,46,47] (by rfl) (by kernel_rfl) (fun _ _ _ _ _ h=>h) hHeld ?_
   iterate 4
    refine yk ?_ rfl (Or.inl ⟨by rfl,?_⟩) ?_;rotate_left
    ·intro w9 hSw;obtain ⟨x0,x1,x4,x5,e0,e1,t0,t1⟩:=hSw;go_simp;(try with_reducible rfl)
    try simp only [sT,Act.put]
   refine aT ?_;simp only [au,sT]
   as_aux_lemma =>
    refine aU [49,50,51,52,53,54,55] (by rfl) (by kernel_rfl) (fun _ _ _ _ _ h=>h) hHeld ?_
    iterate 7
     refine yk ?_ rfl (Or.inl ⟨by rfl,?_⟩) ?_;rotate_left
     ·intro w9 hSw;obtain ⟨x0,x1,x4,x5,e0,e1,t0,t1⟩:=hSw;go_simp;(try with_reducible rfl)
     try simp only [sT,Act.put]
    refine aT ?_;simp only [au,sT];refine aH 48 (by kernel_rfl) rfl (fun K0 hK0=>?_);go_simp;refine (cEp _ HK0.out).mono ?_;rintro _ w1 ⟨v1,X1,rfl,hr1,ho1,hx1,hk1⟩;obtain ⟨a1,c1,rfl,hs1⟩:=hr1.sl ho1;have HK1:=ah (HK0.out.trans hk1 (by simp))
    have c1E:Calls Tryz.prog 45 #[.slice a1 X1.length c1,.slice aE nE cE] w1 fun e w'=>e=.returned (.bool true)∧Hid (aa [] w1 w'):=by
     refine (sN w1 a1 aE X1.length c1 nE cE X1 Y hs1 (HE.out.kept HK1.out)).mono ?_;rintro _ w' ⟨rfl,hk⟩;rw [hx1,HeY.out];exact ⟨by simp,hk⟩
    generalize X1.length=n1 at *;clear hr1 ho1 hx1 hs1 hk1 cEp;(go_wp2_with fail);refine hK0.out _ _ (HC.out.kept HK1.out) (fun hHeld=>?_);clear hK0 K0;(try simp only [sT,Act.put]);refine aH 56 (by kernel_rfl) rfl (fun K0 hK0=>?_);go_simp;refine (c1E).mono ?_;rintro _ w2 ⟨rfl,HK2⟩;have HK3:=ah (HK1.out.trans HK2.out (by simp));clear c1E HK1 HK2;(go_wp2_with fail);refine hK0.out _ _ (HC.out.kept HK3.out) (fun hHeld=>?_);clear hK0 K0;(try simp only [sT,Act.put]);refine aU [57,58,59,61,62,63,64] (by rfl) (by kernel_rfl) (fun _ _ _ _ _ h=>h) hHeld ?_
    iterate 7
     refine yk ?_ rfl (Or.inl ⟨by rfl,?_⟩) ?_;rotate_left
     ·intro w9 hSw;obtain ⟨x0,x1,x4,x5,e0,e1,t0,t1⟩:=hSw;go_simp;(try with_reducible rfl)
     try simp only [sT,Act.put]
    refine aT ?_;simp only [au,sT]
    as_aux_lemma =>
     refine aU [65,66,67] (by rfl) (by kernel_rfl) (fun _ _ _ _ _ h=>h) hHeld ?_
     iterate 3
      refine yk ?_ rfl (Or.inl ⟨by rfl,?_⟩) ?_;rotate_left
      ·intro w9 hSw;obtain ⟨x0,x1,x4,x5,e0,e1,t0,t1⟩:=hSw;go_simp;(try with_reducible rfl)
      try simp only [sT,Act.put]
     refine aT ?_;simp only [au,sT];refine aH 60 (by kernel_rfl) rfl (fun K0 hK0=>?_);go_simp;refine (cSe _ HK3.out).mono ?_;rintro _ w4 ⟨v4,X4,rfl,hr4,ho4,hx4,hk4⟩;obtain ⟨a4,c4,rfl,hs4⟩:=hr4.t.sl (fun x hx=>(ho4 x hx).ko);have HK4:=ah (HK3.out.trans hk4 (by simp))
     have c4S:Calls Tryz.prog 46 #[.slice a4 X4.length c4,.slice aS nS cS] w4 fun e w'=>e=.returned (.bool true)∧Hid (aa [] w4 w') :=
      (qQ w4 a4 aS X4.length nS c4 cS X4 X hs4 (HS.out.kept HK4.out) (by rw [hx4,HeX.out])).mono fun _ _ h=>h
     generalize X4.length=n4 at *;clear hr4 ho4 hx4 hs4 hk4 cSe;(go_wp2_with fail);refine hK0.out _ _ (HC.out.kept HK4.out) (fun hHeld=>?_);clear hK0 K0;(try simp only [sT,Act.put]);refine aH 68 (by kernel_rfl) rfl (fun K0 hK0=>?_);go_simp;refine (c4S).mono ?_;rintro _ w5 ⟨rfl,HK5⟩;have HK6:=ah (HK4.out.trans HK5.out (by simp));clear c4S HK4 HK5;(go_wp2_with fail);refine hK0.out _ _ (HC.out.kept HK6.out) (fun hHeld=>?_);clear hK0 K0;(try simp only [sT,Act.put]);refine aU [69,70,71,73,74,75,76,77] (by rfl) (by kernel_rfl) (fun _ _ _ _ _ h=>h) hHeld ?_
     iterate 8
      refine yk ?_ rfl (Or.inl ⟨by rfl,?_⟩) ?_;rotate_left
      ·intro w9 hSw;obtain ⟨x0,x1,x4,x5,e0,e1,t0,t1⟩:=hSw;go_simp;(try with_reducible rfl)
      try simp only [sT,Act.put]
     refine aT ?_;simp only [au,sT];refine aH 72 (by kernel_rfl) rfl (fun K0 hK0=>?_);go_simp;refine (cCo _ HK6.out).mono ?_;rintro _ w7 ⟨v7,K7,rfl,hx7,hr7,ho7,hk7⟩;obtain ⟨a7,c7,rfl,hs7,_⟩:=bk.sl hr7 ho7;have HK7:=ah (HK6.out.trans hk7 (by simp))
     have c7C:Calls Tryz.prog 34 #[.slice a7 K7.length c7,.slice aC nC cC] w7 fun e w'=>e=.returned (.bool true)∧Hid (aa [] w7 w') :=
      (lu w7 a7 aC K7.length nC c7 cC K7 K hs7 (HK.out.kept HK7.out) (by rw [hx7,HeK.out])).mono fun _ _ h=>h
     generalize K7.length=n7 at *;clear hr7 ho7 hx7 hs7 hk7 cCo;(go_wp2_with fail);refine hK0.out _ _ (HC.out.kept HK7.out) (fun hHeld=>?_);clear hK0 K0;(try simp only [sT,Act.put]);refine aH 78 (by kernel_rfl) rfl (fun K0 hK0=>?_);go_simp;refine (c7C).mono ?_;rintro _ w8 ⟨rfl,HK8⟩;have HK9:=ah (HK7.out.trans HK8.out (by simp));clear c7C HK7 HK8;(go_wp2_with fail);refine hK0.out _ _ (HC.out.kept HK9.out) (fun hHeld=>?_);clear hK0 K0;(try simp only [sT,Act.put]);refine aU [79] (by rfl) (by kernel_rfl) (fun _ _ _ _ _ h=>h) hHeld ?_
     iterate 1
      refine yk ?_ rfl (Or.inl ⟨by rfl,?_⟩) ?_;rotate_left
      ·intro w9 hSw;obtain ⟨x0,x1,x4,x5,e0,e1,t0,t1⟩:=hSw;go_simp;(try with_reducible rfl)
      try simp only [sT,Act.put]
     refine aT ?_;simp only [au,sT]
     as_aux_lemma =>
      refine aU [80,81,83,84,85,86] (by rfl) (by kernel_rfl) (fun _ _ _ _ _ h=>h) hHeld ?_
      iterate 6
       refine yk ?_ rfl (Or.inl ⟨by rfl,?_⟩) ?_;rotate_left
       ·intro w9 hSw;obtain ⟨x0,x1,x4,x5,e0,e1,t0,t1⟩:=hSw;go_simp;(try with_reducible rfl)
       try simp only [sT,Act.put]
      refine aT ?_;simp only [au,sT];refine aH 82 (by kernel_rfl) rfl (fun K0 hK0=>?_);go_simp;refine (cU _ HK9.out).mono ?_;rintro _ w10 ⟨v10,rfl,hr10,hk10⟩;have HR10:=ah hr10;have HK10:=ah (HK9.out.trans hk10 (by simp));clear hr10 hk10 HK9;(go_wp2_with fail);refine hK0.out _ _ (HC.out.kept HK10.out) (fun hHeld=>?_);clear hK0 K0;(try simp only [sT,Act.put]);refine aH 87 (by kernel_rfl) rfl (fun K0 hK0=>?_);go_simp;refine (cDU _ HK10.out).mono ?_;rintro _ w11 ⟨v11,rfl,hr11,hk11⟩;obtain ⟨p10,q10,rfl,hs10⟩:=bJ.sl (hk11.ownsRow HR10.out (by simp));obtain ⟨p11,q11,rfl,hs11⟩:=bJ.sl hr11;have HK11:=ah (HK10.out.trans hk11 (by simp))
      have c11I:Calls Tryz.prog 47 #[.slice p10 un.length q10,.slice p11 un.length q11] w11 fun e w'=>e=.returned (.bool true)∧Hid (aa [] w11 w'):=by
       refine (gT w11 p10 p11 _ _ _ _ _ _ hs10 hs11).mono ?_;rintro _ w' ⟨rfl,hk⟩;exact ⟨by simp,hk⟩
      clear hr11 hk11 hs10 hs11 HK10 HR10;(go_wp2_with fail);refine hK0.out _ _ (HC.out.kept HK11.out) (fun hHeld=>?_);clear hK0 K0;(try simp only [sT,Act.put]);refine aH 88 (by kernel_rfl) rfl (fun K0 hK0=>?_);go_simp;refine (c11I).mono ?_;rintro _ w12 ⟨rfl,HK12⟩;have HK13:=ah (HK11.out.trans HK12.out (by simp));clear c11I HK11 HK12;(go_wp2_with fail);refine hK0.out _ _ (HC.out.kept HK13.out) (fun hHeld=>?_);clear hK0 K0;(try simp only [sT,Act.put]);refine aU [89,90,91,92,93,94,95] (by rfl) (by kernel_rfl) (fun _ _ _ _ _ h=>h) hHeld ?_
      iterate 7
       refine yk ?_ rfl (Or.inl ⟨by rfl,?_⟩) ?_;rotate_left
       ·intro w9 hSw;obtain ⟨x0,x1,x4,x5,e0,e1,t0,t1⟩:=hSw;go_simp;(try with_reducible rfl)
       try simp only [sT,Act.put]
      refine aT ?_;simp only [au,sT]
      as_aux_lemma =>
       refine aU [97,98,99,100,101,102,103,104] (by rfl) (by kernel_rfl) (fun _ _ _ _ _ h=>h) hHeld ?_
       iterate 8
        refine yk ?_ rfl (Or.inl ⟨by rfl,?_⟩) ?_;rotate_left
        ·intro w9 hSw;obtain ⟨x0,x1,x4,x5,e0,e1,t0,t1⟩:=hSw;go_simp;(try with_reducible rfl)
        try simp only [sT,Act.put]
       refine aT ?_;simp only [au,sT];refine aH 96 (by kernel_rfl) rfl (fun K0 hK0=>?_);go_simp;refine (cAt _ HK13.out ma).mono ?_;rintro _ w14 ⟨v14,rfl,hr14,hk14⟩;have HR14:=ah hr14;have HK14:=ah (HK13.out.trans hk14 (by simp));clear hr14 hk14 HK13;(go_wp2_with fail);refine hK0.out _ _ (HC.out.kept HK14.out) (fun hHeld=>?_);clear hK0 K0;(try simp only [sT,Act.put]);refine aH 105 (by kernel_rfl) rfl (fun K0 hK0=>?_);go_simp;refine (cDA _ HK14.out ma).mono ?_;rintro _ w15 ⟨v15,rfl,hr15,hk15⟩;obtain ⟨p14,q14,rfl,hs14⟩:=bJ.sl (hk15.ownsRow HR14.out (by simp));obtain ⟨p15,q15,rfl,hs15⟩:=bJ.sl hr15;have HK15:=ah (HK14.out.trans hk15 (by simp))
       have c15I:Calls Tryz.prog 47 #[.slice p14 (xQ m.e ma).length q14,.slice p15 (xQ m.e ma).length q15] w15 fun e w'=>e=.returned (.bool true)∧Hid (aa [] w15 w'):=by
        refine (gT w15 p14 p15 _ _ _ _ _ _ hs14 hs15).mono ?_;rintro _ w' ⟨rfl,hk⟩;exact ⟨by simp,hk⟩
       clear hr15 hk15 hs14 hs15 HK14 HR14;(go_wp2_with fail);refine hK0.out _ _ (HC.out.kept HK15.out) (fun hHeld=>?_);clear hK0 K0;(try simp only [sT,Act.put]);refine aH 106 (by kernel_rfl) rfl (fun K0 hK0=>?_);go_simp;refine (c15I).mono ?_;rintro _ w16 ⟨rfl,HK16⟩;have HK17:=ah (HK15.out.trans HK16.out (by simp));clear c15I HK15 HK16;(go_wp2_with fail);refine hK0.out _ _ (HC.out.kept HK17.out) (fun hHeld=>?_);clear hK0 K0;(try simp only [sT,Act.put]);refine aU [107,108,109,110,111] (by rfl) (by kernel_rfl) (fun _ _ _ _ _ h=>h) hHeld ?_
       iterate 5
        refine yk ?_ rfl (Or.inl ⟨by rfl,?_⟩) ?_;rotate_left
        ·intro w9 hSw;obtain ⟨x0,x1,x4,x5,e0,e1,t0,t1⟩:=hSw;go_simp;(try with_reducible rfl)
        try simp only [sT,Act.put]
       refine aT ?_;simp only [au,sT]
       as_aux_lemma =>
        refine aU [112,113,114,116,117,118,119,120,121,122,123,124] (by rfl) (by kernel_rfl) (fun _ _ _ _ _ h=>h) hHeld ?_
        iterate 12
         refine yk ?_ rfl (Or.inl ⟨by rfl,?_⟩) ?_;rotate_left
         ·intro w9 hSw;obtain ⟨x0,x1,x4,x5,e0,e1,t0,t1⟩:=hSw;go_simp;(try with_reducible rfl)
         try simp only [sT,Act.put]
        refine aT ?_;simp only [au,sT];refine aH 115 (by kernel_rfl) rfl (fun K0 hK0=>?_);go_simp;refine (cAt _ HK17.out (ma+1)).mono ?_;rintro _ w18 ⟨v18,rfl,hr18,hk18⟩;have HR18:=ah hr18;have HK18:=ah (HK17.out.trans hk18 (by simp));clear hr18 hk18 HK17;(go_wp2_with fail);refine hK0.out _ _ (HC.out.kept HK18.out) (fun hHeld=>?_);clear hK0 K0;(try simp only [sT,Act.put]);refine aH 125 (by kernel_rfl) rfl (fun K0 hK0=>?_);go_simp;refine (cDA _ HK18.out (ma+1)).mono ?_;rintro _ w19 ⟨v19,rfl,hr19,hk19⟩;obtain ⟨p18,q18,rfl,hs18⟩:=bJ.sl (hk19.ownsRow HR18.out (by simp));obtain ⟨p19,q19,rfl,hs19⟩:=bJ.sl hr19;have HK19:=ah (HK18.out.trans hk19 (by simp))
        have c19I:Calls Tryz.prog 47 #[.slice p18 (xQ m.e (ma+1)).length q18,.slice p19 (xQ m.e (ma+1)).length q19] w19 fun e w'=>e=.returned (.bool true)∧Hid (aa [] w19 w'):=by
         refine (gT w19 p18 p19 _ _ _ _ _ _ hs18 hs19).mono ?_;rintro _ w' ⟨rfl,hk⟩;exact ⟨by simp,hk⟩
        clear hr19 hk19 hs18 hs19 HK18 HR18;(go_wp2_with fail);refine hK0.out _ _ (HC.out.kept HK19.out) (fun hHeld=>?_);clear hK0 K0;(try simp only [sT,Act.put]);refine aH 126 (by kernel_rfl) rfl (fun K0 hK0=>?_);go_simp;refine (c19I).mono ?_;rintro _ w20 ⟨rfl,HK20⟩;have HK21:=ah (HK19.out.trans HK20.out (by simp));clear c19I HK19 HK20;(go_wp2_with fail);refine hK0.out _ _ (HC.out.kept HK21.out) (fun hHeld=>?_);clear hK0 K0;(try simp only [sT,Act.put]);refine aU [127] (by rfl) (by kernel_rfl) (fun _ _ _ _ _ h=>h) hHeld ?_
        iterate 1
         refine yk ?_ rfl (Or.inl ⟨by rfl,?_⟩) ?_;rotate_left
         ·intro w9 hSw;obtain ⟨x0,x1,x4,x5,e0,e1,t0,t1⟩:=hSw;go_simp;(try with_reducible rfl)
         try simp only [sT,Act.put]
        refine aT ?_;simp only [au,sT]
        as_aux_lemma =>
         refine aU [128] (by rfl) (by kernel_rfl) (fun _ _ _ _ _ h=>h) hHeld ?_
         iterate 1
          refine yk ?_ rfl (Or.inl ⟨by rfl,?_⟩) ?_;rotate_left
          ·intro w9 hSw;obtain ⟨x0,x1,x4,x5,e0,e1,t0,t1⟩:=hSw;go_simp;(try with_reducible rfl)
          try simp only [sT,Act.put]
         refine aT ?_;simp only [au,sT];(try simp only [sT,Act.put]);refine wpAnyH_done (by kernel_rfl) ?_ _;clear hHeld;(go_wp2_with fail);go_ret
         exact ⟨rfl,HK21.out⟩
end Go.Proofs.YtgpnlidnbldiiaaGreat
