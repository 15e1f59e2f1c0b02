/-
  FileFuse: the walk. (Written by mk/mkfkfu.py.)
-/
import Derived.Test.YteiagkjhmhllnaaRegG
import Derived.Test.YteiagkjhmhllnaaFkFuA
import Derived.Test.YteiagkjhmhllnaaFkReA
import Derived.Test.YteiagkjhmhllnaaFpTwb
namespace Go.Proofs.Yteiagkjhmhllnaa
open Go.RowKit
theorem deed_cellsU {w:World}{b:Nat}{y:Dm}(h:Bx w b 39 (dmC y)):w.cell? ⟨b,0,none⟩=some (.int .i64 y.do_)∧w.cell? ⟨b,1,none⟩=some (.int .i64 y.n)∧w.cell? ⟨b,2,none⟩=some (.string (str y.nm))∧w.cell? ⟨b,3,none⟩=some (.string (str y.t))∧w.cell? ⟨b,4,none⟩=some (.slice y.bo y.b.length y.bc) :=
 ⟨h.cell 0 rfl,h.cell 1 rfl,h.cell 2 rfl,h.cell 3 rfl,h.cell 4 rfl⟩
theorem Two.stsL {A B:World→List Nat→Nat→Dk→Prop}{w0 w:World}{p pd:Nat}{d dd:Dk}(h:Two A B w0 w p pd d dd):∃ O,A w O p d:=by
 obtain ⟨O,Od,h1,_⟩:=h
 exact ⟨O,h1⟩
theorem stsT {B:World→List Nat→Nat→Dk→Prop}{w0 w:World}{p pd:Nat}{d dd:Dk}(h:Two AtQ B w0 w p pd d dd):Calls Try.prog 15 #[.pointer (some ⟨p,0,none⟩)] w fun e w'=>e=.returned (.int .i64 d.s)∧w'=w:=by
 obtain ⟨O,h1⟩:=h.stsL
 exact stsQ h1
theorem dedT {B:World→List Nat→Nat→Dk→Prop}{w0 w:World}{p pd:Nat}{d dd:Dk}(h:Two AtQ B w0 w p pd d dd):Calls Try.prog 14 #[.pointer (some ⟨p,0,none⟩)] w fun e w'=>e=.returned (.bool d.d)∧w'=w:=by
 obtain ⟨O,h1⟩:=h.stsL
 exact dedQ h1
set_option maxRecDepth 100000 in
theorem appP_dead {w:World}{O:List Nat}{p mb:Nat}{q:Int}{d:Dk}{X:List Pm}(h:AtP w O p mb q d X) (hd:d.d=true) (n:List UInt8) (v:Value):Calls Try.prog 11 #[.pointer (some ⟨p,0,none⟩),.string (str n),v] w fun e w'=>e=.returned (.int .i64 7)∧w'=w:=by
 have cW:=hide (worksF_call h)
 rw [if_pos hd] at cW
 clear h
 go_enter Try.func11,Try.ntmps11
 go_wp2_with (go_at_call 36;refine cW.out.mono ?_;clear cW;rintro _ w1 ⟨rfl,hw1⟩;obtain rfl:=hw1.symm)
 go_ret
 exact ⟨rfl,rfl⟩
theorem dead_call {w0 w:World}{p pd:Nat}{d dd:Dk}{b:Nat}{T:TypeId}{cs:List Value}{n:Nat}(h:TwoB AtQ AtQ w0 w p pd d dd b T cs) (hd:d.d=true∧d.s=(n:Int)+1) :
 Calls Try.prog 11 #[.pointer (some ⟨p,0,none⟩),.string (str [122]),.slice none 0 0] w fun e w'=>e=.returned (.int .i64 7)∧Kept [] w0 w':=by
 obtain ⟨O,Od,⟨mb,q,X,h1⟩,h2,h3,h4,h5,h6,_⟩:=h
 refine (appP_dead h1 hd.1 [122] (.slice none 0 0)).mono ?_
 rintro e w' ⟨rfl,rfl⟩
 exact ⟨rfl,h6⟩
set_option linter.unusedSimpArgs false in
set_option maxHeartbeats 8000000 in
set_option maxRecDepth 100000 in
theorem fuse_walk (w:World) (ao:Option Addr) (len c:Nat) (D:List Dm) (hS:SlDm w ao len c D) (nn:Int) :
 Calls Try.prog 6 #[.slice ao len c,.int .i64 nn] w fun e w'=>e=.returned (.bool true)∧Kept [] w w':=by
 obtain rfl:=hS.l
 have hlc:=hS.le
 have hcm:=hS.mx
 unfold maxLen at hcm
 have HS:=hide hS
 have HT:Hid (RowT Try.prog 39 6):=rowT_Deed12
 obtain ⟨n,hn,hz⟩:=and_le nn 63 (by decide)
 have hz9:bits .and .i64 nn 63=(n:Int):=hz
 clear hS hz
 go_enter Try.func6,Try.ntmps6
 go_upto_region 3 with (go_at_call 8;refine (awake12_call _).mono ?_;rintro _ w0 ⟨rfl,hk0⟩;have HK0:=hide hk0;clear hk0)
 have cR:=hide (room12_call w0 ao D.length c D (HS.out.kept HK0.out))
 go_upto_if 16 with (go_at_call 16;refine cR.out.mono ?_;clear cR;rintro _ w1 ⟨⟨bb,rfl,hbb⟩,hw1⟩;obtain rfl:=hw1.symm;have HBB:=hide hbb;clear hbb)
 cases bb
 ·go_wp2_with fail
  go_ret
  exact ⟨rfl,HK0.out⟩
 have HLn:=hide (HBB.out rfl).1
 have HOk:=hide (HBB.out rfl).2
 clear HBB
 go_wp2_with (first
  | (go_at_call 9;refine (One.now HK0.out).mono ?_;clear HK0;rintro _ w2 ⟨p,rfl,h2,_⟩;have H2:=hide h2;clear h2)
  | (go_at_call 9;refine (Two.start frmQ H2.out (newP_call _)).mono ?_;clear H2;rintro _ w3 ⟨pd,rfl,h3⟩;have H3:=hide h3;clear h3)
  | (go_at_call 10;refine (Two.left (d':=fA n [] 0) frmQ H3.out (fun O h=>by have h9:=armQ h n;rw [show armF n ⟨[],0,-1,false⟩=fA n [] 0 from by unfold armF fA;simp only [Bool.false_eq_true,if_false];congr 1;omega] at h9;exact h9)).mono ?_;rintro _ w4 ⟨rfl,h4⟩;have H4:=hide h4;clear h4 H3))
 go_loopw [7] (fun iv wr=>∃ (i:Nat) (L:List Fl) (s:Int),iv=.int .i64 (i:Int)∧i≤D.length∧0≤s∧s≤n∧Hid (Two AtQ AtQ w wr p pd (fA n L s) (fB L s))∧Hid (BdN i (fB L s))) (fun iv _=>D.length - (intOf iv).toNat)
 case atStart=>exact ⟨0,[],0,rfl,Nat.zero_le _,by decide,by omega,H4,bdN_new⟩
 case round =>
  clear H4
  obtain ⟨i,L,s,rfl,hi,hs0,hsn,HI,HN⟩:=hrel
  by_cases hlt:i < D.length
  ·have hlt':(i:Int) < D.length:=by omega
   have hic:i≤c:=by omega
   obtain ⟨g,o,rfl,hx⟩:=HS.out.e i hlt
   have hkw:Kept [] w wr:=HI.out.one.k
   obtain ⟨y,hy⟩:∃ y,y=D[i]:=⟨_,rfl⟩
   rw [← hy] at hx
   have hym:y∈D:=by rw [hy];exact List.getElem_mem hlt
   have HY:=hide (HS.out.x y hym)
   have HOy:=hide (HOk.out y hym)
   have HRg:Hid (wr.rangeAt g (o+i*6) (dmC y)):=fun j v hv=>hkw.cell (hx j v hv) (by simp)
   have HTc:Hid (RowT Try.prog 39 (dmC y).length):=HT.out
   have HB2:=hide (Bx.new wr 39 [.int .i64 0,.int .i64 0,.string ⟨#[]⟩,.string ⟨#[]⟩,.slice none 0 0,.slice none 0 0])
   have HL2:Hid ((dmC y).length=([.int .i64 0,.int .i64 0,.string ⟨#[]⟩,.string ⟨#[]⟩,.slice none 0 0,.slice none 0 0]:List Value).length):=rfl
   have HO2:Hid (∀ v∈dmC y,v.oneCell'=true):=fun v hv=>by
    unfold dmC at hv
    simp at hv
    rcases hv with rfl | rfl | rfl | rfl | rfl | rfl <;> rfl
   have hN2:i≤200:=by have:=HLn.out;omega
   have HBb:=hide (HN.out.bd (by omega))
   have HBa:=hide ((bd_fA HN.out (by omega) hsn).bd (by omega))
   clear hx hy hym
   go_upto_region 16 with (first
    | ((with_reducible refine wl_load_atF HRg.out HTc.out ?_ ?_);rfl)
    | ((with_reducible refine wl_store_bx HB2.out HL2.out HO2.out HTc.out ?_ ?_ ?_);rfl;rfl;intro w3 HB3 HK3))
   have hk3:Kept [] wr w3:=((Kept.refl [] wr).alloc _).trans HK3.out (by simp)
   have T3:=hide (HI.out.box frmQ frmQ hk3 (Nat.le_refl _) HB3.out)
   generalize wr.heap.size=db at *
   have HNm:Hid (y.nm.length≤1000000∧y.t.length≤1000000∧y.b.length≤500):=by
    have:=HOy.out.2.2.1
    have:=HOy.out.2.2.2
    have:=HOy.out.1
    show _∧_∧_
    omega
   have HSb:Hid (∀ W,Kept [] w W→Sl W y.bo y.b.length y.bc y.b):=fun W k=>Sl.kept k HY.out.b (by simp)
   clear HB3 HK3 HB2 HL2 HO2 HRg hk3 HI hkw
   go_upto_region 17 with (go_at_call 15;refine (stsT T3.out.two).mono ?_;rintro _ _ ⟨rfl,rfl⟩;rw [show (fA n L s).s=s from rfl])
   obtain ⟨dn,hdn⟩:∃ z,z=y.do_:=⟨_,rfl⟩
   obtain ⟨k0,k1,k2,k3,k4⟩:=deed_cellsU T3.out.bx
   rw [← hdn] at k0
   clear hdn
   by_cases hd3:dn≤3
   ·obtain ⟨ra,hra⟩:∃ ra,ra=appF y.nm y.b (fA n L s):=⟨_,rfl⟩
    obtain ⟨rb,hrb⟩:∃ rb,rb=appF y.nm y.b (fB L s):=⟨_,rfl⟩
    have cA:=hide (show ∀ W,TwoB AtQ AtQ w W p pd (fA n L s) (fB L s) db 39 (dmC y)→Calls Try.prog 11 #[.pointer (some ⟨p,0,none⟩),.string (str y.nm),.slice y.bo y.b.length y.bc] W fun e w'=>e=.returned (.int .i64 ra.2)∧TwoB AtQ AtQ w w' p pd ra.1 (fB L s) db 39 (dmC y) from fun W hT=>by
     rw [hra]
     exact hT.left frmQ (fun O h _=>appQ h HBa.out y.nm HNm.out.1 y.bo y.b.length y.bc y.b (HSb.out _ hT.k) (by have:=HNm.out.2.2;omega)))
    have cB:=hide (show ∀ W,TwoB AtQ AtQ w W p pd ra.1 (fB L s) db 39 (dmC y)→Calls Try.prog 11 #[.pointer (some ⟨pd,0,none⟩),.string (str y.nm),.slice y.bo y.b.length y.bc] W fun e w'=>e=.returned (.int .i64 rb.2)∧TwoB AtQ AtQ w w' p pd ra.1 rb.1 db 39 (dmC y) from fun W hT=>by
     rw [hrb]
     exact hT.right frmQ (fun O h _=>appQ h HBb.out y.nm HNm.out.1 y.bo y.b.length y.bc y.b (HSb.out _ hT.k) (by have:=HNm.out.2.2;omega)))
    have HFu:Hid (FuP n s ra rb):=by rw [hra,hrb];exact app_fu hsn L y.nm y.b
    have HNn:Hid (BdN (i+1) rb.1):=by rw [hrb];exact appF_bd HN.out y.nm y.b HNm.out.2.2
    have HSx:Hid (∀ W d1 d2,TwoB AtQ AtQ w W p pd d1 d2 db 39 (dmC y)→(W.cell? ⟨db,1,none⟩=some (.int .i64 y.n)∧W.cell? ⟨db,2,none⟩=some (.string (str y.nm))∧W.cell? ⟨db,3,none⟩=some (.string (str y.t))∧W.cell? ⟨db,4,none⟩=some (.slice y.bo y.b.length y.bc))):=fun W _ _ hT=>by
     obtain ⟨_,q1,q2,q3,q4⟩:=deed_cellsU hT.bx
     exact ⟨q1,q2,q3,q4⟩
    have T3d:=hide (T3.out.kept frmQ frmQ (Kept.refl _ _).drew)
    clear hra hrb k1 k2 k3 k4
    go_upto_region 18 with fail
    refine wp_region_held_drew (S:=fun w9=>w9.cell? ⟨db,1,none⟩=some (.int .i64 y.n)∧w9.cell? ⟨db,2,none⟩=some (.string (str y.nm))∧w9.cell? ⟨db,3,none⟩=some (.string (str y.t))∧w9.cell? ⟨db,4,none⟩=some (.slice y.bo y.b.length y.bc)) (by kernel_rfl) (HSx.out _ _ _ T3d.out) (fun hHeld=>?_)
    try simp only [List.append_eq,List.cons_append,List.nil_append]
    refine tks [0,1,2,3,4,6,7,8,9,10] (by rfl) (by kernel_rfl) (fun _ _ _ _ _ h=>h) hHeld ?_
    iterate 10
     refine yk ?_ rfl (Or.inl ⟨by rfl,?_⟩) ?_
     rotate_left
     ·intro w9 hSw;obtain ⟨m1,m2,m3,m4⟩:=hSw;go_simp;(try with_reducible rfl)
     try simp only [sT,Act.put]
    refine yk0 ?_
    simp only [setK,sT]
    refine rd1 5 (by kernel_rfl) rfl (fun K0 hK0=>?_)
    go_simp
    refine (cA.out _ T3d.out).mono ?_
    rintro _ w5 ⟨rfl,t5⟩
    have T5:=hide t5
    have hs5:=HSx.out _ _ _ t5
    clear t5 hHeld T3 T3d cA k0
    go_wp2_with fail
    refine hK0.out _ _ hs5 (fun hHeld=>?_)
    clear hK0 K0 hs5
    try simp only [sT,Act.put]
    refine rd1 11 (by kernel_rfl) rfl (fun K0 hK0=>?_)
    go_simp
    refine (cB.out _ T5.out).mono ?_
    rintro _ w6 ⟨rfl,t6⟩
    have T6:=hide t6
    have hs6:=HSx.out _ _ _ t6
    clear t6 hHeld T5 cB
    go_wp2_with fail
    refine hK0.out _ _ hs6 (fun hHeld=>?_)
    clear hK0 K0 hs6
    try simp only [sT,Act.put]
    refine tks [12,13] (by rfl) (by kernel_rfl) (fun _ _ _ _ _ h=>h) hHeld ?_
    iterate 2
     refine yk ?_ rfl (Or.inl ⟨by rfl,?_⟩) ?_
     rotate_left
     ·intro w9 hSw;obtain ⟨m1,m2,m3,m4⟩:=hSw;go_simp;(try with_reducible rfl)
     try simp only [sT,Act.put]
    refine yk0 ?_
    simp only [setK,sT]
    refine wpAnyH_done (by kernel_rfl) ?_ _
    clear hHeld
    obtain ⟨a1,r1⟩:=ra
    obtain ⟨b1,r2⟩:=rb
    simp only at T6 HNn
    rcases HFu.out with ⟨L',s',e1,e2,hs1,hs2,e3⟩ | ⟨e1,e2,e3,e4⟩
    ·simp only at e1 e2 e3
     subst e1;subst e2;subst e3
     clear HFu
     have HD1:=hide (dedT T6.out.two)
     have HS1:=hide (stsT T6.out.two)
     have HS2:=hide (stsT T6.out.two.swap)
     rw [show (fA n L' s').d=false from rfl] at HD1
     rw [show (fA n L' s').s=s' from rfl] at HS1
     rw [show (fB L' s').s=s' from rfl] at HS2
     go_wp2_with (first
      | (go_at_call 14;refine HD1.out.mono ?_;clear HD1;rintro _ _ ⟨rfl,rfl⟩)
      | (go_at_call 15;refine HS1.out.mono ?_;clear HS1;rintro _ _ ⟨rfl,rfl⟩)
      | (go_at_call 15;refine HS2.out.mono ?_;clear HS2;rintro _ _ ⟨rfl,rfl⟩))
     go_roundw
     case rel=>exact ⟨i+1,L',s',by go_num,by omega,by omega,hs2,T6.out.two,HNn⟩
     case measure=>simp [intOf];omega
    ·simp only at e1 e2 e3
     subst e2;subst e4
     have HD9:=hide (And.intro e1 e3)
     have hrs:a1.s=(n:Int)+1:=e3
     clear HFu e1 e3
     go_wp2_with (first
      | (go_at_call 14;refine (dedT T6.out.two).mono ?_;rintro _ _ ⟨rfl,rfl⟩;rw [HD9.out.1])
      | (go_at_call 15;refine (stsT T6.out.two).mono ?_;rintro _ _ ⟨rfl,rfl⟩;rw [HD9.out.2])
      | (go_at_call 11;refine (dead_call T6.out HD9.out).mono ?_;rintro _ w7 ⟨rfl,hk7⟩;have HK7:=hide hk7;clear hk7))
     go_ret
     exact ⟨rfl,HK7.out⟩
   by_cases hd5:dn≤5
   ·obtain ⟨ra,hra⟩:∃ ra,ra=synF y.nm (fA n L s):=⟨_,rfl⟩
    obtain ⟨rb,hrb⟩:∃ rb,rb=synF y.nm (fB L s):=⟨_,rfl⟩
    have cA:=hide (show ∀ W,TwoB AtQ AtQ w W p pd (fA n L s) (fB L s) db 39 (dmC y)→Calls Try.prog 12 #[.pointer (some ⟨p,0,none⟩),.string (str y.nm)] W fun e w'=>e=.returned (.int .i64 ra.2)∧TwoB AtQ AtQ w w' p pd ra.1 (fB L s) db 39 (dmC y) from fun W hT=>by
     rw [hra]
     exact hT.left frmQ (fun O h _=>synQ h HBa.out y.nm HNm.out.1))
    have cB:=hide (show ∀ W,TwoB AtQ AtQ w W p pd ra.1 (fB L s) db 39 (dmC y)→Calls Try.prog 12 #[.pointer (some ⟨pd,0,none⟩),.string (str y.nm)] W fun e w'=>e=.returned (.int .i64 rb.2)∧TwoB AtQ AtQ w w' p pd ra.1 rb.1 db 39 (dmC y) from fun W hT=>by
     rw [hrb]
     exact hT.right frmQ (fun O h _=>synQ h HBb.out y.nm HNm.out.1))
    have HFu:Hid (FuP n s ra rb):=by rw [hra,hrb];exact syn_fu hsn L y.nm
    have HNn:Hid (BdN (i+1) rb.1):=by rw [hrb];exact synF_bd HN.out y.nm
    have HSx:Hid (∀ W d1 d2,TwoB AtQ AtQ w W p pd d1 d2 db 39 (dmC y)→(W.cell? ⟨db,1,none⟩=some (.int .i64 y.n)∧W.cell? ⟨db,2,none⟩=some (.string (str y.nm))∧W.cell? ⟨db,3,none⟩=some (.string (str y.t))∧W.cell? ⟨db,4,none⟩=some (.slice y.bo y.b.length y.bc))):=fun W _ _ hT=>by
     obtain ⟨_,q1,q2,q3,q4⟩:=deed_cellsU hT.bx
     exact ⟨q1,q2,q3,q4⟩
    have T3d:=hide (T3.out.kept frmQ frmQ (Kept.refl _ _).drew)
    clear hra hrb k1 k2 k3 k4
    go_upto_region 20 with fail
    refine wp_region_held_drew (S:=fun w9=>w9.cell? ⟨db,1,none⟩=some (.int .i64 y.n)∧w9.cell? ⟨db,2,none⟩=some (.string (str y.nm))∧w9.cell? ⟨db,3,none⟩=some (.string (str y.t))∧w9.cell? ⟨db,4,none⟩=some (.slice y.bo y.b.length y.bc)) (by kernel_rfl) (HSx.out _ _ _ T3d.out) (fun hHeld=>?_)
    try simp only [List.append_eq,List.cons_append,List.nil_append]
    refine tks [0,1,2,4,5,6] (by rfl) (by kernel_rfl) (fun _ _ _ _ _ h=>h) hHeld ?_
    iterate 6
     refine yk ?_ rfl (Or.inl ⟨by rfl,?_⟩) ?_
     rotate_left
     ·intro w9 hSw;obtain ⟨m1,m2,m3,m4⟩:=hSw;go_simp;(try with_reducible rfl)
     try simp only [sT,Act.put]
    refine yk0 ?_
    simp only [setK,sT]
    refine rd1 3 (by kernel_rfl) rfl (fun K0 hK0=>?_)
    go_simp
    refine (cA.out _ T3d.out).mono ?_
    rintro _ w5 ⟨rfl,t5⟩
    have T5:=hide t5
    have hs5:=HSx.out _ _ _ t5
    clear t5 hHeld T3 T3d cA k0
    go_wp2_with fail
    refine hK0.out _ _ hs5 (fun hHeld=>?_)
    clear hK0 K0 hs5
    try simp only [sT,Act.put]
    refine rd1 7 (by kernel_rfl) rfl (fun K0 hK0=>?_)
    go_simp
    refine (cB.out _ T5.out).mono ?_
    rintro _ w6 ⟨rfl,t6⟩
    have T6:=hide t6
    have hs6:=HSx.out _ _ _ t6
    clear t6 hHeld T5 cB
    go_wp2_with fail
    refine hK0.out _ _ hs6 (fun hHeld=>?_)
    clear hK0 K0 hs6
    try simp only [sT,Act.put]
    refine tks [8,9] (by rfl) (by kernel_rfl) (fun _ _ _ _ _ h=>h) hHeld ?_
    iterate 2
     refine yk ?_ rfl (Or.inl ⟨by rfl,?_⟩) ?_
     rotate_left
     ·intro w9 hSw;obtain ⟨m1,m2,m3,m4⟩:=hSw;go_simp;(try with_reducible rfl)
     try simp only [sT,Act.put]
    refine yk0 ?_
    simp only [setK,sT]
    refine wpAnyH_done (by kernel_rfl) ?_ _
    clear hHeld
    obtain ⟨a1,r1⟩:=ra
    obtain ⟨b1,r2⟩:=rb
    simp only at T6 HNn
    rcases HFu.out with ⟨L',s',e1,e2,hs1,hs2,e3⟩ | ⟨e1,e2,e3,e4⟩
    ·simp only at e1 e2 e3
     subst e1;subst e2;subst e3
     clear HFu
     have HD1:=hide (dedT T6.out.two)
     have HS1:=hide (stsT T6.out.two)
     have HS2:=hide (stsT T6.out.two.swap)
     rw [show (fA n L' s').d=false from rfl] at HD1
     rw [show (fA n L' s').s=s' from rfl] at HS1
     rw [show (fB L' s').s=s' from rfl] at HS2
     go_wp2_with (first
      | (go_at_call 14;refine HD1.out.mono ?_;clear HD1;rintro _ _ ⟨rfl,rfl⟩)
      | (go_at_call 15;refine HS1.out.mono ?_;clear HS1;rintro _ _ ⟨rfl,rfl⟩)
      | (go_at_call 15;refine HS2.out.mono ?_;clear HS2;rintro _ _ ⟨rfl,rfl⟩))
     go_roundw
     case rel=>exact ⟨i+1,L',s',by go_num,by omega,by omega,hs2,T6.out.two,HNn⟩
     case measure=>simp [intOf];omega
    ·simp only at e1 e2 e3
     subst e2;subst e4
     have HD9:=hide (And.intro e1 e3)
     have hrs:a1.s=(n:Int)+1:=e3
     clear HFu e1 e3
     go_wp2_with (first
      | (go_at_call 14;refine (dedT T6.out.two).mono ?_;rintro _ _ ⟨rfl,rfl⟩;rw [HD9.out.1])
      | (go_at_call 15;refine (stsT T6.out.two).mono ?_;rintro _ _ ⟨rfl,rfl⟩;rw [HD9.out.2])
      | (go_at_call 11;refine (dead_call T6.out HD9.out).mono ?_;rintro _ w7 ⟨rfl,hk7⟩;have HK7:=hide hk7;clear hk7))
     go_ret
     exact ⟨rfl,HK7.out⟩
   by_cases hd6:dn=6
   ·obtain ⟨ra,hra⟩:∃ ra,ra=truF y.nm y.n (fA n L s):=⟨_,rfl⟩
    obtain ⟨rb,hrb⟩:∃ rb,rb=truF y.nm y.n (fB L s):=⟨_,rfl⟩
    have cA:=hide (show ∀ W,TwoB AtQ AtQ w W p pd (fA n L s) (fB L s) db 39 (dmC y)→Calls Try.prog 20 #[.pointer (some ⟨p,0,none⟩),.string (str y.nm),.int .i64 y.n] W fun e w'=>e=.returned (.int .i64 ra.2)∧TwoB AtQ AtQ w w' p pd ra.1 (fB L s) db 39 (dmC y) from fun W hT=>by
     rw [hra]
     exact hT.left frmQ (fun O h _=>truQ h HBa.out y.nm HNm.out.1 y.n))
    have cB:=hide (show ∀ W,TwoB AtQ AtQ w W p pd ra.1 (fB L s) db 39 (dmC y)→Calls Try.prog 20 #[.pointer (some ⟨pd,0,none⟩),.string (str y.nm),.int .i64 y.n] W fun e w'=>e=.returned (.int .i64 rb.2)∧TwoB AtQ AtQ w w' p pd ra.1 rb.1 db 39 (dmC y) from fun W hT=>by
     rw [hrb]
     exact hT.right frmQ (fun O h _=>truQ h HBb.out y.nm HNm.out.1 y.n))
    have HFu:Hid (FuP n s ra rb):=by rw [hra,hrb];exact tru_fu hsn L y.nm y.n
    have HNn:Hid (BdN (i+1) rb.1):=by rw [hrb];exact truF_bd HN.out y.nm y.n
    have HSx:Hid (∀ W d1 d2,TwoB AtQ AtQ w W p pd d1 d2 db 39 (dmC y)→(W.cell? ⟨db,1,none⟩=some (.int .i64 y.n)∧W.cell? ⟨db,2,none⟩=some (.string (str y.nm))∧W.cell? ⟨db,3,none⟩=some (.string (str y.t))∧W.cell? ⟨db,4,none⟩=some (.slice y.bo y.b.length y.bc))):=fun W _ _ hT=>by
     obtain ⟨_,q1,q2,q3,q4⟩:=deed_cellsU hT.bx
     exact ⟨q1,q2,q3,q4⟩
    have T3d:=hide (T3.out.kept frmQ frmQ (Kept.refl _ _).drew)
    clear hra hrb k1 k2 k3 k4
    go_upto_region 22 with fail
    refine wp_region_held_drew (S:=fun w9=>w9.cell? ⟨db,1,none⟩=some (.int .i64 y.n)∧w9.cell? ⟨db,2,none⟩=some (.string (str y.nm))∧w9.cell? ⟨db,3,none⟩=some (.string (str y.t))∧w9.cell? ⟨db,4,none⟩=some (.slice y.bo y.b.length y.bc)) (by kernel_rfl) (HSx.out _ _ _ T3d.out) (fun hHeld=>?_)
    try simp only [List.append_eq,List.cons_append,List.nil_append]
    refine tks [0,1,2,3,4,6,7,8,9,10] (by rfl) (by kernel_rfl) (fun _ _ _ _ _ h=>h) hHeld ?_
    iterate 10
     refine yk ?_ rfl (Or.inl ⟨by rfl,?_⟩) ?_
     rotate_left
     ·intro w9 hSw;obtain ⟨m1,m2,m3,m4⟩:=hSw;go_simp;(try with_reducible rfl)
     try simp only [sT,Act.put]
    refine yk0 ?_
    simp only [setK,sT]
    refine rd1 5 (by kernel_rfl) rfl (fun K0 hK0=>?_)
    go_simp
    refine (cA.out _ T3d.out).mono ?_
    rintro _ w5 ⟨rfl,t5⟩
    have T5:=hide t5
    have hs5:=HSx.out _ _ _ t5
    clear t5 hHeld T3 T3d cA k0
    go_wp2_with fail
    refine hK0.out _ _ hs5 (fun hHeld=>?_)
    clear hK0 K0 hs5
    try simp only [sT,Act.put]
    refine rd1 11 (by kernel_rfl) rfl (fun K0 hK0=>?_)
    go_simp
    refine (cB.out _ T5.out).mono ?_
    rintro _ w6 ⟨rfl,t6⟩
    have T6:=hide t6
    have hs6:=HSx.out _ _ _ t6
    clear t6 hHeld T5 cB
    go_wp2_with fail
    refine hK0.out _ _ hs6 (fun hHeld=>?_)
    clear hK0 K0 hs6
    try simp only [sT,Act.put]
    refine tks [12,13] (by rfl) (by kernel_rfl) (fun _ _ _ _ _ h=>h) hHeld ?_
    iterate 2
     refine yk ?_ rfl (Or.inl ⟨by rfl,?_⟩) ?_
     rotate_left
     ·intro w9 hSw;obtain ⟨m1,m2,m3,m4⟩:=hSw;go_simp;(try with_reducible rfl)
     try simp only [sT,Act.put]
    refine yk0 ?_
    simp only [setK,sT]
    refine wpAnyH_done (by kernel_rfl) ?_ _
    clear hHeld
    obtain ⟨a1,r1⟩:=ra
    obtain ⟨b1,r2⟩:=rb
    simp only at T6 HNn
    rcases HFu.out with ⟨L',s',e1,e2,hs1,hs2,e3⟩ | ⟨e1,e2,e3,e4⟩
    ·simp only at e1 e2 e3
     subst e1;subst e2;subst e3
     clear HFu
     have HD1:=hide (dedT T6.out.two)
     have HS1:=hide (stsT T6.out.two)
     have HS2:=hide (stsT T6.out.two.swap)
     rw [show (fA n L' s').d=false from rfl] at HD1
     rw [show (fA n L' s').s=s' from rfl] at HS1
     rw [show (fB L' s').s=s' from rfl] at HS2
     go_wp2_with (first
      | (go_at_call 14;refine HD1.out.mono ?_;clear HD1;rintro _ _ ⟨rfl,rfl⟩)
      | (go_at_call 15;refine HS1.out.mono ?_;clear HS1;rintro _ _ ⟨rfl,rfl⟩)
      | (go_at_call 15;refine HS2.out.mono ?_;clear HS2;rintro _ _ ⟨rfl,rfl⟩))
     go_roundw
     case rel=>exact ⟨i+1,L',s',by go_num,by omega,by omega,hs2,T6.out.two,HNn⟩
     case measure=>simp [intOf];omega
    ·simp only at e1 e2 e3
     subst e2;subst e4
     have HD9:=hide (And.intro e1 e3)
     have hrs:a1.s=(n:Int)+1:=e3
     clear HFu e1 e3
     go_wp2_with (first
      | (go_at_call 14;refine (dedT T6.out.two).mono ?_;rintro _ _ ⟨rfl,rfl⟩;rw [HD9.out.1])
      | (go_at_call 15;refine (stsT T6.out.two).mono ?_;rintro _ _ ⟨rfl,rfl⟩;rw [HD9.out.2])
      | (go_at_call 11;refine (dead_call T6.out HD9.out).mono ?_;rintro _ w7 ⟨rfl,hk7⟩;have HK7:=hide hk7;clear hk7))
     go_ret
     exact ⟨rfl,HK7.out⟩
   by_cases hd7:dn=7
   ·obtain ⟨ra,hra⟩:∃ ra,ra=renF y.nm y.t (fA n L s):=⟨_,rfl⟩
    obtain ⟨rb,hrb⟩:∃ rb,rb=renF y.nm y.t (fB L s):=⟨_,rfl⟩
    have cA:=hide (show ∀ W,TwoB AtQ AtQ w W p pd (fA n L s) (fB L s) db 39 (dmC y)→Calls Try.prog 22 #[.pointer (some ⟨p,0,none⟩),.string (str y.nm),.string (str y.t)] W fun e w'=>e=.returned (.int .i64 ra.2)∧TwoB AtQ AtQ w w' p pd ra.1 (fB L s) db 39 (dmC y) from fun W hT=>by
     rw [hra]
     exact hT.left frmQ (fun O h _=>renQ h HBa.out y.nm y.t HNm.out.1 HNm.out.2.1))
    have cB:=hide (show ∀ W,TwoB AtQ AtQ w W p pd ra.1 (fB L s) db 39 (dmC y)→Calls Try.prog 22 #[.pointer (some ⟨pd,0,none⟩),.string (str y.nm),.string (str y.t)] W fun e w'=>e=.returned (.int .i64 rb.2)∧TwoB AtQ AtQ w w' p pd ra.1 rb.1 db 39 (dmC y) from fun W hT=>by
     rw [hrb]
     exact hT.right frmQ (fun O h _=>renQ h HBb.out y.nm y.t HNm.out.1 HNm.out.2.1))
    have HFu:Hid (FuP n s ra rb):=by rw [hra,hrb];exact ren_fu hsn L y.nm y.t
    have HNn:Hid (BdN (i+1) rb.1):=by rw [hrb];exact renF_bd HN.out y.nm y.t
    have HSx:Hid (∀ W d1 d2,TwoB AtQ AtQ w W p pd d1 d2 db 39 (dmC y)→(W.cell? ⟨db,1,none⟩=some (.int .i64 y.n)∧W.cell? ⟨db,2,none⟩=some (.string (str y.nm))∧W.cell? ⟨db,3,none⟩=some (.string (str y.t))∧W.cell? ⟨db,4,none⟩=some (.slice y.bo y.b.length y.bc))):=fun W _ _ hT=>by
     obtain ⟨_,q1,q2,q3,q4⟩:=deed_cellsU hT.bx
     exact ⟨q1,q2,q3,q4⟩
    have T3d:=hide (T3.out.kept frmQ frmQ (Kept.refl _ _).drew)
    clear hra hrb k1 k2 k3 k4
    go_upto_region 24 with fail
    refine wp_region_held_drew (S:=fun w9=>w9.cell? ⟨db,1,none⟩=some (.int .i64 y.n)∧w9.cell? ⟨db,2,none⟩=some (.string (str y.nm))∧w9.cell? ⟨db,3,none⟩=some (.string (str y.t))∧w9.cell? ⟨db,4,none⟩=some (.slice y.bo y.b.length y.bc)) (by kernel_rfl) (HSx.out _ _ _ T3d.out) (fun hHeld=>?_)
    try simp only [List.append_eq,List.cons_append,List.nil_append]
    refine tks [0,1,2,3,4,6,7,8,9,10] (by rfl) (by kernel_rfl) (fun _ _ _ _ _ h=>h) hHeld ?_
    iterate 10
     refine yk ?_ rfl (Or.inl ⟨by rfl,?_⟩) ?_
     rotate_left
     ·intro w9 hSw;obtain ⟨m1,m2,m3,m4⟩:=hSw;go_simp;(try with_reducible rfl)
     try simp only [sT,Act.put]
    refine yk0 ?_
    simp only [setK,sT]
    refine rd1 5 (by kernel_rfl) rfl (fun K0 hK0=>?_)
    go_simp
    refine (cA.out _ T3d.out).mono ?_
    rintro _ w5 ⟨rfl,t5⟩
    have T5:=hide t5
    have hs5:=HSx.out _ _ _ t5
    clear t5 hHeld T3 T3d cA k0
    go_wp2_with fail
    refine hK0.out _ _ hs5 (fun hHeld=>?_)
    clear hK0 K0 hs5
    try simp only [sT,Act.put]
    refine rd1 11 (by kernel_rfl) rfl (fun K0 hK0=>?_)
    go_simp
    refine (cB.out _ T5.out).mono ?_
    rintro _ w6 ⟨rfl,t6⟩
    have T6:=hide t6
    have hs6:=HSx.out _ _ _ t6
    clear t6 hHeld T5 cB
    go_wp2_with fail
    refine hK0.out _ _ hs6 (fun hHeld=>?_)
    clear hK0 K0 hs6
    try simp only [sT,Act.put]
    refine tks [12,13] (by rfl) (by kernel_rfl) (fun _ _ _ _ _ h=>h) hHeld ?_
    iterate 2
     refine yk ?_ rfl (Or.inl ⟨by rfl,?_⟩) ?_
     rotate_left
     ·intro w9 hSw;obtain ⟨m1,m2,m3,m4⟩:=hSw;go_simp;(try with_reducible rfl)
     try simp only [sT,Act.put]
    refine yk0 ?_
    simp only [setK,sT]
    refine wpAnyH_done (by kernel_rfl) ?_ _
    clear hHeld
    obtain ⟨a1,r1⟩:=ra
    obtain ⟨b1,r2⟩:=rb
    simp only at T6 HNn
    rcases HFu.out with ⟨L',s',e1,e2,hs1,hs2,e3⟩ | ⟨e1,e2,e3,e4⟩
    ·simp only at e1 e2 e3
     subst e1;subst e2;subst e3
     clear HFu
     have HD1:=hide (dedT T6.out.two)
     have HS1:=hide (stsT T6.out.two)
     have HS2:=hide (stsT T6.out.two.swap)
     rw [show (fA n L' s').d=false from rfl] at HD1
     rw [show (fA n L' s').s=s' from rfl] at HS1
     rw [show (fB L' s').s=s' from rfl] at HS2
     go_wp2_with (first
      | (go_at_call 14;refine HD1.out.mono ?_;clear HD1;rintro _ _ ⟨rfl,rfl⟩)
      | (go_at_call 15;refine HS1.out.mono ?_;clear HS1;rintro _ _ ⟨rfl,rfl⟩)
      | (go_at_call 15;refine HS2.out.mono ?_;clear HS2;rintro _ _ ⟨rfl,rfl⟩))
     go_roundw
     case rel=>exact ⟨i+1,L',s',by go_num,by omega,by omega,hs2,T6.out.two,HNn⟩
     case measure=>simp [intOf];omega
    ·simp only at e1 e2 e3
     subst e2;subst e4
     have HD9:=hide (And.intro e1 e3)
     have hrs:a1.s=(n:Int)+1:=e3
     clear HFu e1 e3
     go_wp2_with (first
      | (go_at_call 14;refine (dedT T6.out.two).mono ?_;rintro _ _ ⟨rfl,rfl⟩;rw [HD9.out.1])
      | (go_at_call 15;refine (stsT T6.out.two).mono ?_;rintro _ _ ⟨rfl,rfl⟩;rw [HD9.out.2])
      | (go_at_call 11;refine (dead_call T6.out HD9.out).mono ?_;rintro _ w7 ⟨rfl,hk7⟩;have HK7:=hide hk7;clear hk7))
     go_ret
     exact ⟨rfl,HK7.out⟩
   by_cases hd8:dn=8
   ·obtain ⟨ra,hra⟩:∃ ra,ra=rmvF y.nm (fA n L s):=⟨_,rfl⟩
    obtain ⟨rb,hrb⟩:∃ rb,rb=rmvF y.nm (fB L s):=⟨_,rfl⟩
    have cA:=hide (show ∀ W,TwoB AtQ AtQ w W p pd (fA n L s) (fB L s) db 39 (dmC y)→Calls Try.prog 24 #[.pointer (some ⟨p,0,none⟩),.string (str y.nm)] W fun e w'=>e=.returned (.int .i64 ra.2)∧TwoB AtQ AtQ w w' p pd ra.1 (fB L s) db 39 (dmC y) from fun W hT=>by
     rw [hra]
     exact hT.left frmQ (fun O h _=>rmvQ h HBa.out y.nm HNm.out.1))
    have cB:=hide (show ∀ W,TwoB AtQ AtQ w W p pd ra.1 (fB L s) db 39 (dmC y)→Calls Try.prog 24 #[.pointer (some ⟨pd,0,none⟩),.string (str y.nm)] W fun e w'=>e=.returned (.int .i64 rb.2)∧TwoB AtQ AtQ w w' p pd ra.1 rb.1 db 39 (dmC y) from fun W hT=>by
     rw [hrb]
     exact hT.right frmQ (fun O h _=>rmvQ h HBb.out y.nm HNm.out.1))
    have HFu:Hid (FuP n s ra rb):=by rw [hra,hrb];exact rmv_fu hsn L y.nm
    have HNn:Hid (BdN (i+1) rb.1):=by rw [hrb];exact rmvF_bd HN.out y.nm
    have HSx:Hid (∀ W d1 d2,TwoB AtQ AtQ w W p pd d1 d2 db 39 (dmC y)→(W.cell? ⟨db,1,none⟩=some (.int .i64 y.n)∧W.cell? ⟨db,2,none⟩=some (.string (str y.nm))∧W.cell? ⟨db,3,none⟩=some (.string (str y.t))∧W.cell? ⟨db,4,none⟩=some (.slice y.bo y.b.length y.bc))):=fun W _ _ hT=>by
     obtain ⟨_,q1,q2,q3,q4⟩:=deed_cellsU hT.bx
     exact ⟨q1,q2,q3,q4⟩
    have T3d:=hide (T3.out.kept frmQ frmQ (Kept.refl _ _).drew)
    clear hra hrb k1 k2 k3 k4
    go_upto_region 26 with fail
    refine wp_region_held_drew (S:=fun w9=>w9.cell? ⟨db,1,none⟩=some (.int .i64 y.n)∧w9.cell? ⟨db,2,none⟩=some (.string (str y.nm))∧w9.cell? ⟨db,3,none⟩=some (.string (str y.t))∧w9.cell? ⟨db,4,none⟩=some (.slice y.bo y.b.length y.bc)) (by kernel_rfl) (HSx.out _ _ _ T3d.out) (fun hHeld=>?_)
    try simp only [List.append_eq,List.cons_append,List.nil_append]
    refine tks [0,1,2,4,5,6] (by rfl) (by kernel_rfl) (fun _ _ _ _ _ h=>h) hHeld ?_
    iterate 6
     refine yk ?_ rfl (Or.inl ⟨by rfl,?_⟩) ?_
     rotate_left
     ·intro w9 hSw;obtain ⟨m1,m2,m3,m4⟩:=hSw;go_simp;(try with_reducible rfl)
     try simp only [sT,Act.put]
    refine yk0 ?_
    simp only [setK,sT]
    refine rd1 3 (by kernel_rfl) rfl (fun K0 hK0=>?_)
    go_simp
    refine (cA.out _ T3d.out).mono ?_
    rintro _ w5 ⟨rfl,t5⟩
    have T5:=hide t5
    have hs5:=HSx.out _ _ _ t5
    clear t5 hHeld T3 T3d cA k0
    go_wp2_with fail
    refine hK0.out _ _ hs5 (fun hHeld=>?_)
    clear hK0 K0 hs5
    try simp only [sT,Act.put]
    refine rd1 7 (by kernel_rfl) rfl (fun K0 hK0=>?_)
    go_simp
    refine (cB.out _ T5.out).mono ?_
    rintro _ w6 ⟨rfl,t6⟩
    have T6:=hide t6
    have hs6:=HSx.out _ _ _ t6
    clear t6 hHeld T5 cB
    go_wp2_with fail
    refine hK0.out _ _ hs6 (fun hHeld=>?_)
    clear hK0 K0 hs6
    try simp only [sT,Act.put]
    refine tks [8,9] (by rfl) (by kernel_rfl) (fun _ _ _ _ _ h=>h) hHeld ?_
    iterate 2
     refine yk ?_ rfl (Or.inl ⟨by rfl,?_⟩) ?_
     rotate_left
     ·intro w9 hSw;obtain ⟨m1,m2,m3,m4⟩:=hSw;go_simp;(try with_reducible rfl)
     try simp only [sT,Act.put]
    refine yk0 ?_
    simp only [setK,sT]
    refine wpAnyH_done (by kernel_rfl) ?_ _
    clear hHeld
    obtain ⟨a1,r1⟩:=ra
    obtain ⟨b1,r2⟩:=rb
    simp only at T6 HNn
    rcases HFu.out with ⟨L',s',e1,e2,hs1,hs2,e3⟩ | ⟨e1,e2,e3,e4⟩
    ·simp only at e1 e2 e3
     subst e1;subst e2;subst e3
     clear HFu
     have HD1:=hide (dedT T6.out.two)
     have HS1:=hide (stsT T6.out.two)
     have HS2:=hide (stsT T6.out.two.swap)
     rw [show (fA n L' s').d=false from rfl] at HD1
     rw [show (fA n L' s').s=s' from rfl] at HS1
     rw [show (fB L' s').s=s' from rfl] at HS2
     go_wp2_with (first
      | (go_at_call 14;refine HD1.out.mono ?_;clear HD1;rintro _ _ ⟨rfl,rfl⟩)
      | (go_at_call 15;refine HS1.out.mono ?_;clear HS1;rintro _ _ ⟨rfl,rfl⟩)
      | (go_at_call 15;refine HS2.out.mono ?_;clear HS2;rintro _ _ ⟨rfl,rfl⟩))
     go_roundw
     case rel=>exact ⟨i+1,L',s',by go_num,by omega,by omega,hs2,T6.out.two,HNn⟩
     case measure=>simp [intOf];omega
    ·simp only at e1 e2 e3
     subst e2;subst e4
     have HD9:=hide (And.intro e1 e3)
     have hrs:a1.s=(n:Int)+1:=e3
     clear HFu e1 e3
     go_wp2_with (first
      | (go_at_call 14;refine (dedT T6.out.two).mono ?_;rintro _ _ ⟨rfl,rfl⟩;rw [HD9.out.1])
      | (go_at_call 15;refine (stsT T6.out.two).mono ?_;rintro _ _ ⟨rfl,rfl⟩;rw [HD9.out.2])
      | (go_at_call 11;refine (dead_call T6.out HD9.out).mono ?_;rintro _ w7 ⟨rfl,hk7⟩;have HK7:=hide hk7;clear hk7))
     go_ret
     exact ⟨rfl,HK7.out⟩
   obtain ⟨L',hL'⟩:∃ L',L'=L:=⟨_,rfl⟩
   obtain ⟨s',hs'⟩:∃ s',s'=s:=⟨_,rfl⟩
   have hs2:s'≤n:=by omega
   have HNn:Hid (BdN (i+1) (fB L' s')):=by rw [hL',hs'];exact HN.out.mono (Nat.le_succ i)
   rw [← hL',← hs'] at T3
   clear hL' HBa HBb HN
   have hs1:0≤s':=by omega
   clear hs'
   have HD1:=hide (dedT T3.out.two)
   have HS1:=hide (stsT T3.out.two)
   have HS2:=hide (stsT T3.out.two.swap)
   rw [show (fA n L' s').d=false from rfl] at HD1
   rw [show (fA n L' s').s=s' from rfl] at HS1
   rw [show (fB L' s').s=s' from rfl] at HS2
   go_wp2_with (first
    | (go_at_call 14;refine HD1.out.mono ?_;clear HD1;rintro _ _ ⟨rfl,rfl⟩)
    | (go_at_call 15;refine HS1.out.mono ?_;clear HS1;rintro _ _ ⟨rfl,rfl⟩)
    | (go_at_call 15;refine HS2.out.mono ?_;clear HS2;rintro _ _ ⟨rfl,rfl⟩))
   go_roundw
   case rel=>exact ⟨i+1,L',s',by go_num,by omega,by omega,hs2,T3.out.two,HNn⟩
   case measure=>simp [intOf];omega
  ·have hlt':¬ (i:Int) < D.length:=by omega
   have hz8:decide (s≤(n:Int))=true:=decide_eq_true hsn
   go_wp2_with (go_at_call 15;refine (stsT HI.out).mono ?_;rintro _ _ ⟨rfl,rfl⟩;rw [show (fA n L s).s=s from rfl])
   go_ret
   exact ⟨rfl,HI.out.one.k⟩
end Go.Proofs.Yteiagkjhmhllnaa
