/-
  FilePlays: the walk. (Written by mk/mkfkpl.py.)
-/
import Derived.Test.YteiagkjhmhllnaaFkPl0
namespace Go.Proofs.Yteiagkjhmhllnaa
open Go.RowKit
theorem One.k' {A:World→List Nat→Nat→Dk→Prop}{w0 w:World}{p:Nat}{d:Dk}(h:One A w0 w p d):Kept [] w0 w:=by
 obtain ⟨O,_,_,h3⟩:=h
 exact h3
theorem deed_cells {w:World}{b:Nat}{y:Dm}(h:Bx w b 39 (dmC y)):w.cell? ⟨b,0,none⟩=some (.int .i64 y.do_)∧w.cell? ⟨b,1,none⟩=some (.int .i64 y.n)∧w.cell? ⟨b,2,none⟩=some (.string (str y.nm))∧w.cell? ⟨b,3,none⟩=some (.string (str y.t))∧w.cell? ⟨b,4,none⟩=some (.slice y.bo y.b.length y.bc)∧w.cell? ⟨b,5,none⟩=some (.slice y.ko y.K.length y.kc) :=
 ⟨h.cell 0 rfl,h.cell 1 rfl,h.cell 2 rfl,h.cell 3 rfl,h.cell 4 rfl,h.cell 5 rfl⟩
set_option linter.unusedSimpArgs false in
set_option maxHeartbeats 8000000 in
set_option maxRecDepth 100000 in
theorem plays_walk (w:World) (ao:Option Addr) (n c:Nat) (D:List Dm) (hS:SlDm w ao n c D) :
 Calls Try.prog 4 #[.slice ao n c] w fun e w'=>e=.returned (.bool true)∧Kept [] w w':=by
 obtain rfl:=hS.l
 have hlc:=hS.le
 have hcm:=hS.mx
 unfold maxLen at hcm
 have HS:=hide hS
 have HT:Hid (RowT Try.prog 39 6):=rowT_Deed12
 clear hS
 go_enter Try.func4,Try.ntmps4
 go_upto_region 3 with (go_at_call 8;refine (awake12_call _).mono ?_;rintro _ w0 ⟨rfl,hk0⟩;have HK0:=hide hk0;clear hk0)
 have cR:=hide (room12_call w0 ao D.length c D (HS.out.kept HK0.out))
 go_upto_if 19 with (go_at_call 16;refine cR.out.mono ?_;clear cR;rintro _ w1 ⟨⟨bb,rfl,hbb⟩,hw1⟩;obtain rfl:=hw1.symm;have HBB:=hide hbb;clear hbb)
 cases bb
 ·go_wp2_with fail
  go_ret
  exact ⟨rfl,HK0.out⟩
 have HLn:=hide (HBB.out rfl).1
 have HOk:=hide (HBB.out rfl).2
 clear HBB
 go_wp2_with (first
  | (go_at_call 9;refine (One.now HK0.out).mono ?_;clear HK0;rintro _ w2 ⟨p,rfl,h2,_⟩;have H2:=hide h2;clear h2)
  | (go_at_call 17;refine (Two.start frmQ H2.out (newD _)).mono ?_;clear H2;rintro _ w3 ⟨pd,rfl,h3⟩;have H3:=hide h3;clear h3)
  | (go_at_call 8;refine (awake12_call _).mono ?_;rintro _ w4 ⟨rfl,hk4⟩;have H4:=hide (H3.out.kept frmQ frmF hk4);clear hk4 H3))
 go_loopw [3,4,5] (fun v3 v4 iv wr=>∃ (i:Nat) (p pd:Nat) (d:Dk),v3=.pointer (some ⟨p,0,none⟩)∧v4=.pointer (some ⟨pd,0,none⟩)∧iv=.int .i64 (i:Int)∧i≤D.length∧Hid (Two AtQ AtF w wr p pd d d)∧Hid (BdN i d)) (fun _ _ iv _=>D.length - (intOf iv).toNat)
 case atStart=>exact ⟨0,p,pd,_,rfl,rfl,rfl,Nat.zero_le _,H4,bdN_new⟩
 case round =>
  clear H4
  obtain ⟨i,p,pd,d,rfl,rfl,rfl,hi,HI,HN⟩:=hrel
  by_cases hlt:i < D.length
  ·have hlt':(i:Int) < D.length:=by omega
   have hic:i≤c:=by omega
   obtain ⟨g,o,rfl,hx⟩:=HS.out.e i hlt
   have hkw:Kept [] w wr:=HI.out.one.k
   obtain ⟨y,hy⟩:∃ y,y=D[i]:=⟨_,rfl⟩
   rw [← hy] at hx
   have hym:y∈D:=by rw [hy];exact List.getElem_mem hlt
   have HY:=hide (HS.out.x y hym)
   have HOy:=hide (HOk.out y hym)
   have HRg:Hid (wr.rangeAt g (o+i*6) (dmC y)):=fun j v hv=>hkw.cell (hx j v hv) (by simp)
   have HTc:Hid (RowT Try.prog 39 (dmC y).length):=HT.out
   have HB2:=hide (Bx.new wr 39 [.int .i64 0,.int .i64 0,.string ⟨#[]⟩,.string ⟨#[]⟩,.slice none 0 0,.slice none 0 0])
   have HL2:Hid ((dmC y).length=([.int .i64 0,.int .i64 0,.string ⟨#[]⟩,.string ⟨#[]⟩,.slice none 0 0,.slice none 0 0]:List Value).length):=rfl
   have HO2:Hid (∀ v∈dmC y,v.oneCell'=true):=fun v hv=>by
    unfold dmC at hv
    simp at hv
    rcases hv with rfl | rfl | rfl | rfl | rfl | rfl <;> rfl
   have hN2:i≤200:=by have:=HLn.out;omega
   have HBd:=hide (HN.out.bd (by omega))
   clear hx hy hym
   go_upto_region 18 with (first
    | ((with_reducible refine wl_load_atF HRg.out HTc.out ?_ ?_);rfl)
    | ((with_reducible refine wl_store_bx HB2.out HL2.out HO2.out HTc.out ?_ ?_ ?_);rfl;rfl;intro w3 HB3 HK3))
   have hk3:Kept [] wr w3:=((Kept.refl [] wr).alloc _).trans HK3.out (by simp)
   have T3:=hide (HI.out.box frmQ frmF hk3 (Nat.le_refl _) HB3.out)
   generalize wr.heap.size=db at *
   have HNm:Hid (y.nm.length≤1000000∧y.t.length≤1000000∧y.b.length≤500):=by
    have:=HOy.out.2.2.1
    have:=HOy.out.2.2.2
    have:=HOy.out.1
    show _∧_∧_
    omega
   have HSb:Hid (∀ W,Kept [] w W→Sl W y.bo y.b.length y.bc y.b):=fun W k=>Sl.kept k HY.out.b (by simp)
   have HSo:Hid (∀ O:List Nat,(∀ k∈O,w.heap.size≤k)→0 < y.b.length→∀ k∈blk y.bo,k ∉ O):=fun O hO h0 k hk hm=>by
    have:=hO k hm
    have:=sl_lt0 HY.out.b h0 k hk
    omega
   have HSk:Hid (∀ W,Kept [] w W→SlI W y.ko y.K.length y.kc y.K):=fun W k=>HY.out.K.kept k
   obtain ⟨dn,hdn⟩:∃ z,z=y.do_:=⟨_,rfl⟩
   obtain ⟨k0,k1,k2,k3,k4,k5⟩:=deed_cells T3.out.bx
   rw [← hdn] at k0
   clear HB3 HK3 HB2 HL2 HO2 HRg hk3 HI hkw
   by_cases hd3:dn≤3
   ·have HBn:=hide (appF_bd HN.out y.nm y.b HNm.out.2.2)
    go_wp2_with (first
     | (go_at_call 11;refine (T3.out.left frmF (fun O h _=>appQ h HBd.out y.nm HNm.out.1 y.bo y.b.length y.bc y.b (HSb.out _ T3.out.k) (by have:=HNm.out.2.2;omega))).mono ?_;rintro _ w5 ⟨rfl,t5⟩;have T5:=hide t5;clear t5 T3 k0 k1 k2 k3 k4 k5;obtain ⟨k0,k1,k2,k3,k4,k5⟩:=deed_cells T5.out.bx;rw [← hdn] at k0)
     | (go_at_call 18;refine (T5.out.right frmQ (fun O h hO=>appD h HBd.out y.nm y.bo y.b.length y.bc y.b (HSb.out _ T5.out.k) (by have:=HNm.out.2.2;omega) (HSo.out O hO))).mono ?_;rintro _ w6 ⟨rfl,t6⟩;have T6:=hide t6;clear t6 k0 k1 k2 k3 k4 k5;obtain ⟨k0,k1,k2,k3,k4,k5⟩:=deed_cells T6.out.bx;rw [← hdn] at k0)
     | (go_at_call 32;refine (looksB T6.out.two (HBn.out.bd (by omega))).mono ?_;rintro _ w8 ⟨rfl,h8⟩;have H8:=hide h8;clear h8))
    go_roundw
    case rel=>exact ⟨i+1,_,_,_,rfl,rfl,by go_num,by omega,H8,HBn.out⟩
    case measure=>simp [intOf];omega
   by_cases hd5:dn≤5
   ·have HBn:=hide (synF_bd HN.out y.nm)
    go_wp2_with (first
     | (go_at_call 12;refine (T3.out.left frmF (fun O h _=>synQ h HBd.out y.nm HNm.out.1)).mono ?_;rintro _ w5 ⟨rfl,t5⟩;have T5:=hide t5;clear t5 T3 k0 k1 k2 k3 k4 k5;obtain ⟨k0,k1,k2,k3,k4,k5⟩:=deed_cells T5.out.bx;rw [← hdn] at k0)
     | (go_at_call 19;refine (T5.out.right frmQ (fun O h hO=>synD h HBd.out y.nm)).mono ?_;rintro _ w6 ⟨rfl,t6⟩;have T6:=hide t6;clear t6 k0 k1 k2 k3 k4 k5;obtain ⟨k0,k1,k2,k3,k4,k5⟩:=deed_cells T6.out.bx;rw [← hdn] at k0)
     | (go_at_call 32;refine (looksB T6.out.two (HBn.out.bd (by omega))).mono ?_;rintro _ w8 ⟨rfl,h8⟩;have H8:=hide h8;clear h8))
    go_roundw
    case rel=>exact ⟨i+1,_,_,_,rfl,rfl,by go_num,by omega,H8,HBn.out⟩
    case measure=>simp [intOf];omega
   by_cases hd6:dn=6
   ·have HBn:=hide (truF_bd HN.out y.nm y.n)
    go_wp2_with (first
     | (go_at_call 20;refine (T3.out.left frmF (fun O h _=>truQ h HBd.out y.nm HNm.out.1 y.n)).mono ?_;rintro _ w5 ⟨rfl,t5⟩;have T5:=hide t5;clear t5 T3 k0 k1 k2 k3 k4 k5;obtain ⟨k0,k1,k2,k3,k4,k5⟩:=deed_cells T5.out.bx;rw [← hdn] at k0)
     | (go_at_call 21;refine (T5.out.right frmQ (fun O h hO=>truD h HBd.out y.nm y.n)).mono ?_;rintro _ w6 ⟨rfl,t6⟩;have T6:=hide t6;clear t6 k0 k1 k2 k3 k4 k5;obtain ⟨k0,k1,k2,k3,k4,k5⟩:=deed_cells T6.out.bx;rw [← hdn] at k0)
     | (go_at_call 32;refine (looksB T6.out.two (HBn.out.bd (by omega))).mono ?_;rintro _ w8 ⟨rfl,h8⟩;have H8:=hide h8;clear h8))
    go_roundw
    case rel=>exact ⟨i+1,_,_,_,rfl,rfl,by go_num,by omega,H8,HBn.out⟩
    case measure=>simp [intOf];omega
   by_cases hd7:dn=7
   ·have HBn:=hide (renF_bd HN.out y.nm y.t)
    go_wp2_with (first
     | (go_at_call 22;refine (T3.out.left frmF (fun O h _=>renQ h HBd.out y.nm y.t HNm.out.1 HNm.out.2.1)).mono ?_;rintro _ w5 ⟨rfl,t5⟩;have T5:=hide t5;clear t5 T3 k0 k1 k2 k3 k4 k5;obtain ⟨k0,k1,k2,k3,k4,k5⟩:=deed_cells T5.out.bx;rw [← hdn] at k0)
     | (go_at_call 23;refine (T5.out.right frmQ (fun O h hO=>renD h HBd.out y.nm y.t)).mono ?_;rintro _ w6 ⟨rfl,t6⟩;have T6:=hide t6;clear t6 k0 k1 k2 k3 k4 k5;obtain ⟨k0,k1,k2,k3,k4,k5⟩:=deed_cells T6.out.bx;rw [← hdn] at k0)
     | (go_at_call 32;refine (looksB T6.out.two (HBn.out.bd (by omega))).mono ?_;rintro _ w8 ⟨rfl,h8⟩;have H8:=hide h8;clear h8))
    go_roundw
    case rel=>exact ⟨i+1,_,_,_,rfl,rfl,by go_num,by omega,H8,HBn.out⟩
    case measure=>simp [intOf];omega
   by_cases hd8:dn=8
   ·have HBn:=hide (rmvF_bd HN.out y.nm)
    go_wp2_with (first
     | (go_at_call 24;refine (T3.out.left frmF (fun O h _=>rmvQ h HBd.out y.nm HNm.out.1)).mono ?_;rintro _ w5 ⟨rfl,t5⟩;have T5:=hide t5;clear t5 T3 k0 k1 k2 k3 k4 k5;obtain ⟨k0,k1,k2,k3,k4,k5⟩:=deed_cells T5.out.bx;rw [← hdn] at k0)
     | (go_at_call 25;refine (T5.out.right frmQ (fun O h hO=>rmvD h HBd.out y.nm)).mono ?_;rintro _ w6 ⟨rfl,t6⟩;have T6:=hide t6;clear t6 k0 k1 k2 k3 k4 k5;obtain ⟨k0,k1,k2,k3,k4,k5⟩:=deed_cells T6.out.bx;rw [← hdn] at k0)
     | (go_at_call 32;refine (looksB T6.out.two (HBn.out.bd (by omega))).mono ?_;rintro _ w8 ⟨rfl,h8⟩;have H8:=hide h8;clear h8))
    go_roundw
    case rel=>exact ⟨i+1,_,_,_,rfl,rfl,by go_num,by omega,H8,HBn.out⟩
    case measure=>simp [intOf];omega
   by_cases hd9:dn=9
   ·have HBn:=hide ((armF_bd HN.out y.n HY.out.w.2).mono (Nat.le_succ i))
    go_wp2_with (first
     | (go_at_call 10;refine (T3.out.left frmF (fun O h _=>armQ h y.n)).mono ?_;rintro _ w5 ⟨rfl,t5⟩;have T5:=hide t5;clear t5 T3 k0 k1 k2 k3 k4 k5;obtain ⟨k0,k1,k2,k3,k4,k5⟩:=deed_cells T5.out.bx;rw [← hdn] at k0)
     | (go_at_call 26;refine (T5.out.right frmQ (fun O h hO=>armD h y.n)).mono ?_;rintro _ w6 ⟨rfl,t6⟩;have T6:=hide t6;clear t6 k0 k1 k2 k3 k4 k5;obtain ⟨k0,k1,k2,k3,k4,k5⟩:=deed_cells T6.out.bx;rw [← hdn] at k0)
     | (go_at_call 32;refine (looksB T6.out.two (HBn.out.bd (by omega))).mono ?_;rintro _ w8 ⟨rfl,h8⟩;have H8:=hide h8;clear h8))
    go_roundw
    case rel=>exact ⟨i+1,_,_,_,rfl,rfl,by go_num,by omega,H8,HBn.out⟩
    case measure=>simp [intOf];omega
   by_cases hd10:dn=10
   ·have HBn:=hide ((flpF_bd HN.out y.nm y.n).mono (Nat.le_succ i))
    go_wp2_with (first
     | (go_at_call 27;refine (T3.out.left frmF (fun O h _=>flpQ h HBd.out y.nm HNm.out.1 y.n HY.out.w)).mono ?_;rintro _ w5 ⟨rfl,t5⟩;have T5:=hide t5;clear t5 T3 k0 k1 k2 k3 k4 k5;obtain ⟨k0,k1,k2,k3,k4,k5⟩:=deed_cells T5.out.bx;rw [← hdn] at k0)
     | (go_at_call 28;refine (T5.out.right frmQ (fun O h hO=>flpD h HBd.out y.nm y.n HY.out.w)).mono ?_;rintro _ w6 ⟨rfl,t6⟩;have T6:=hide t6;clear t6 k0 k1 k2 k3 k4 k5;obtain ⟨k0,k1,k2,k3,k4,k5⟩:=deed_cells T6.out.bx;rw [← hdn] at k0)
     | (go_at_call 32;refine (looksB T6.out.two (HBn.out.bd (by omega))).mono ?_;rintro _ w8 ⟨rfl,h8⟩;have H8:=hide h8;clear h8))
    go_roundw
    case rel=>exact ⟨i+1,_,_,_,rfl,rfl,by go_num,by omega,H8,HBn.out⟩
    case measure=>simp [intOf];omega
   by_cases hd11:dn=11
   ·have HBn:=hide ((crsF_bd HN.out y.K).mono (Nat.le_succ i))
    go_wp2_with (first
     | (go_at_call 29;refine (T3.out.newL frmF (fun O h=>crsQ h HBd.out y.ko y.K.length y.kc y.K (HSk.out _ T3.out.k) HY.out.W)).mono ?_;rintro _ w5 ⟨p5,rfl,t5⟩;have T5:=hide t5;clear t5 T3 k0 k1 k2 k3 k4 k5;obtain ⟨k0,k1,k2,k3,k4,k5⟩:=deed_cells T5.out.bx;rw [← hdn] at k0)
     | (go_at_call 30;refine (T5.out.newR frmQ (fun O h=>crsD h HBd.out y.ko y.K.length y.kc y.K (HSk.out _ T5.out.k))).mono ?_;rintro _ w6 ⟨p6,rfl,t6⟩;have T6:=hide t6;clear t6 k0 k1 k2 k3 k4 k5;obtain ⟨k0,k1,k2,k3,k4,k5⟩:=deed_cells T6.out.bx;rw [← hdn] at k0)
     | (go_at_call 32;refine (looksB T6.out.two (HBn.out.bd (by omega))).mono ?_;rintro _ w8 ⟨rfl,h8⟩;have H8:=hide h8;clear h8))
    go_roundw
    case rel=>exact ⟨i+1,_,_,_,rfl,rfl,by go_num,by omega,H8,HBn.out⟩
    case measure=>simp [intOf];omega
   have HBn:=hide (HN.out.mono (Nat.le_succ i))
   have HB9:=hide (appF_bd HN.out y.nm [9] (by decide))
   go_wp2_with (first
    | (go_at_call 31;refine (T3.out.bind (fun O h=>clnQ h HBd.out)).mono ?_;rintro _ w5 ⟨p5,rfl,t5⟩;have T5:=hide t5;clear t5 T3 k0 k1 k2 k3 k4 k5;obtain ⟨k0,k1,k2,k3,k4,k5⟩:=deed_cells T5.out.bx;rw [← hdn] at k0)
    | (go_at_call 11;refine ((T5.out.kept frmQ (frmB _ _) ((Kept.refl _ _).alloc _)).left (frmB _ _) (fun O h _=>appQ h HBd.out y.nm HNm.out.1 _ 1 1 [9] (slLit _ [9] (by decide)) (by decide))).mono ?_;rintro _ w6 ⟨rfl,t6⟩;have T6:=hide t6;clear t6 k0 k1 k2 k3 k4 k5 T5;obtain ⟨k0,k1,k2,k3,k4,k5⟩:=deed_cells T6.out.bx;rw [← hdn] at k0)
    | (go_at_call 10;refine (T6.out.left (frmB _ _) (fun O h _=>armQ h 0)).mono ?_;rintro _ w7 ⟨rfl,t7⟩;have T7:=hide t7.unbind;clear t7 k0 k1 k2 k3 k4 k5 T6;obtain ⟨k0,k1,k2,k3,k4,k5⟩:=deed_cells T7.out.bx;rw [← hdn] at k0)
    | (go_at_call 32;refine (looksB T7.out.two (HBn.out.bd (by omega))).mono ?_;rintro _ w8 ⟨rfl,h8⟩;have H8:=hide h8;clear h8))
   go_roundw
   case rel=>exact ⟨i+1,_,_,_,rfl,rfl,by go_num,by omega,H8,HBn.out⟩
   case measure=>simp [intOf];omega
  ·have hlt':¬ (i:Int) < D.length:=by omega
   go_wp2_with fail
   go_ret
   exact ⟨rfl,HI.out.one.k⟩
end Go.Proofs.Yteiagkjhmhllnaa
