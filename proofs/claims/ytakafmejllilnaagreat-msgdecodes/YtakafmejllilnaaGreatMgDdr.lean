/-
  The document's Decode of messages.
-/
import Derived.Test.YtakafmejllilnaaGreatMgDcr
import Derived.Test.YtakafmejllilnaaGreatW14r
import Derived.Test.YtakafmejllilnaaGreatW7r
import Derived.Test.YtakafmejllilnaaGreatW12r
import Derived.Test.YtakafmejllilnaaGreatH2r
namespace Go.Proofs.YtakafmejllilnaaGreat
open Go.RowKit
theorem tS (f:Fd) (m:Ms) (s:St) (hn:Nl s) (h:(gw f m s).2.2=0):s.2=0:=by
 by_cases he:s.2=0
 ·exact he
 ·exfalso
  have h1:=(l7 f m).bad _ he;have h2:s=([],s.2):=Prod.ext (hn he) rfl;rw [← h2] at h1;rw [h1] at h;exact he (by rw [h2] at h;exact h)
def yu (B p:Nat) (W:World) (b:Nat) (y:Mm) (s:St) (wx:World):Prop:=Hid (bn B p wx s)∧Hid (Bx wx b 36 (aX y))∧Hid (ab [p] W wx)
def yo (C B p b:Nat) (W:World) (fs:List Fd) (m0:Ms) (s0:St) (iv:Value) (wr:World):Prop :=
 ∃ (i:Nat) (y:Mm),iv=.int .i64 (i:Int)∧i≤fs.length∧Hid (Bx wr b 36 (aX y))∧Hid (iC C wr y)∧Hid (bn B p wr (aU (fs.take i) m0 s0).2)∧Hid (ab [p,b] W wr)∧Hid ((aU (fs.take i) m0 s0).2.2=0→y.ms=(aU (fs.take i) m0 s0).1)
set_option linter.unusedSimpArgs false in
set_option maxHeartbeats 8000000 in
set_option maxRecDepth 100000 in
theorem oM (w:World) (ao:Option Addr) (n c:Nat) (l:List Int) (hs:Sl w ao n c l) (hn:n≤1000000000) (ho:bi l):Calls Tryz.prog 18 #[.slice ao n c] w (xo w (fu l)):=by
 obtain ⟨W,hW⟩:∃ W,W=w.alloc (.cells br.toArray 36):=⟨_,rfl⟩;have hK:ab [] w W:=by rw [hW];exact (ab.refl _ _).alloc _
 have HBZ:Hid (Bx W w.heap.size 36 br):=by rw [hW];exact Bx.new w _ _
 have HK:=aa hK;have hln:=hs.1;have hnl:(n:Int)=(l.length:Int):=by omega
 have cU:=aa (lf W ao n c l (Sl.kept hK hs (by simp)) ho);have HUO:=aa (jP ho);have HUL:Hid ((aE l).1.length≤1000000000):=Nat.le_trans (jN l) (by omega);have HQ:Hid (fu l=if (aE l).2.2≠0 then (gC,(aE l).2.2) else if (aE l).2.1 < (l.length:Int) then (gC,3) else gt (aE l).1):=rfl;have HT0:Hid (aq Tryz.prog 36 (aX eI).length):=cL;have HO0:=aa (dJ eI);have HL0:Hid ((aX eI).length=br.length):=rfl;have HW:Hid (W=w.alloc (.cells br.toArray 36)):=hW;unfold br at HW;have HNL:=aa hnl;clear hW hK hs hln hn ho hnl;go_enter Tryz.func18,Tryz.ntmps18;go_upto_region 1 with fail
 rw [← HW.out];go_upto_region 2 with (go_at_call 41;refine cU.out.mono ?_;clear cU;rintro _ w1 ⟨a1,n1,c1,rfl,hS1,hb1,hk1⟩;have hn1:=hS1.1;have HK1:=aa (HK.out.trans hk1 (by simp));have HZ1:=aa (HBZ.out.kept hk1 (by simp));have HS1:=aa hS1;have HN1:=aa hn1;clear hS1 hb1 hk1 hn1)
 generalize aE l=u at *;obtain ⟨body,size,e⟩:=u;simp only at HQ HS1 HUO HUL HN1 ⊢;by_cases he:e=0
 rotate_left
 ·have hq:fu l=(gC,e):=by rw [HQ.out,if_pos he]
  have HQ1:=aa hq;have heb:(e != 0)=true:=by simpa using he
  clear he hq;(go_wp2_with ((refine ac HZ1.out HL0.out HO0.out HT0.out ?_ ?_ ?_);rfl;rfl;intro wz HBz HKz));refine bodyPost_ret (bY (by rfl) _ (by rfl) HBz.out HT0.out) rfl ?_;rw [HQ1.out];exact ⟨eI,rfl,rfl,iQ _,HK1.out.trans HKz.out (by simp)⟩
 subst he;have HQ2:Hid (fu l=if size < (l.length:Int) then (gC,3) else gt body):=by show _=_;rw [HQ.out];simp
 clear HQ;by_cases hz:size < (l.length:Int)
 ·have hq:fu l=(gC,3):=by rw [HQ2.out,if_pos hz]
  have HQ1:=aa hq;have hz':size < (n:Int):=by rw [HNL.out];exact hz
  clear hz hq;(go_wp2_with ((refine ac HZ1.out HL0.out HO0.out HT0.out ?_ ?_ ?_);rfl;rfl;intro wz HBz HKz));refine bodyPost_ret (bY (by rfl) _ (by rfl) HBz.out HT0.out) rfl ?_;rw [HQ1.out];exact ⟨eI,rfl,rfl,iQ _,HK1.out.trans HKz.out (by simp)⟩
 have hz':¬ size < (n:Int):=by rw [HNL.out];exact hz
 have HQ3:Hid (fu l=gt body):=by show _=_;rw [HQ2.out,if_neg hz]
 clear HQ2 hz;have k1:ab [] w1 (w1.alloc (.cells #[.slice a1 n1 c1,.int .i64 0] 81)):=(ab.refl _ _).alloc _;have hA1:=uq w1 a1 n1 c1 body HS1.out (by have:=HN1.out;have:=HUL.out;omega) HUO.out;have hk01:=HK1.out.trans k1 (by simp);have HZa:=aa (HZ1.out.kept k1 (by simp));have HKa:=aa hk01
 have HFM:Hid (gc (dM (body,0)).2=0→fX (dM (body,0)).1):=fun h=>by
  have h1:=fE h;exact (wh.bwd body (dM (body,0)).1 [] HUO.out (Prod.ext rfl h1)).1
 obtain ⟨Wp,hWp⟩:∃ Wp,Wp=w1.alloc (.cells #[.slice a1 n1 c1,.int .i64 0] 81):=⟨_,rfl⟩;rw [← hWp] at hA1 HZa HKa;have hps:w1.heap.size < Wp.heap.size:=by rw [hWp];simp
 have hpw:w.heap.size < w1.heap.size:=HZ1.out.lt;have HWp:=aa hWp;have cN:=aa (aD w1.heap.size w1.heap.size Wp (body,0) hA1);have HDD:Hid (gt body=if gc (dM (body,0)).2≠0 then (gC,gc (dM (body,0)).2) else if bQ (dM (body,0)).1=true then ((dM (body,0)).1,0) else (gC,4)):=rfl;have HMS:=aa (lz body);have HKD:Hid (bl (body,0)=if bc (az (body,0)).1=[] then ((az (body,0)).1,([],aO (az (body,0)).2.2)) else az (body,0)):=rfl;have HN0:Hid (ag.num (body,0) 0=az (body,0)):=rfl;rw [HN0.out] at cN;clear hWp k1 hA1 hk01 HZ1 HK1 HN0;generalize dM (body,0)=mq at HFM HDD HMS;generalize bl (body,0)=kq at HMS HKD;generalize az (body,0)=nq at HMS HKD cN;obtain ⟨k,s1⟩:=nq;simp only at HMS HKD cN;obtain ⟨y1,hy1⟩:∃ y1:Mm,y1={ eI with k:=k }:=⟨_,rfl⟩;have HY1:=aa hy1;have HM1:Hid (aX y1=[.int .i64 k,.int .i64 0,.int .i64 0,.int .i64 0,.int .i64 0,.int .i64 0,.int .i64 0,.string ⟨#[]⟩,.int .i64 0,.int .i64 0,.int .i64 0,.string ⟨#[]⟩,.slice none 0 0,.string ⟨#[]⟩,.int .i64 0,.int .i64 0,.int .i64 0,.slice none 0 0,.slice none 0 0,.int .i64 0,.int .i64 0,.int .i64 0,.int .i64 0,.string ⟨#[]⟩,.int .u64 0,.slice none 0 0,.int .i64 0]):=by rw [hy1];rfl
 have HLb:Hid ((aX y1).length=br.length):=rfl;have HOb:=aa (dJ y1);have HTb:Hid (aq Tryz.prog 36 (aX y1).length):=cL;clear hy1;go_upto_region 7 with fail
 rw [← HWp.out];go_upto_region 8 with (first | (go_at_call 42;refine cN.out.mono ?_;clear cN;rintro _ w2 ⟨rfl,hA2,hk2⟩;have HA2:=aa hA2;have HKr2:=aa hk2;have HZ2:Hid (Bx (w2.alloc (.cells br.toArray 36)) w2.heap.size 36 br):=(Bx.new w2 _ br);have HZ20:=HZ2;unfold br at HZ2;clear hA2 hk2) | ((refine ac HZ20.out HLb.out HOb.out HTb.out ?_ ?_ ?_);rfl;(rw [HM1.out];rfl);intro w3 HB3 HK3))
 have hk3:ab [] w2 w3:=(ab.refl [] w2).trans (((ab.refl [w2.heap.size] w2).alloc _).trans HK3.out (by simp)) (by intro i hi;simp at hi;right;omega);have hs2:Wp.heap.size≤w2.heap.size:=HKr2.out.size;have hb3:w2.heap.size < w3.heap.size:=HB3.out.lt;have HA3:=aa (HA2.out.kept hk3 (by simp) (by simp));have HKr3:=aa (HKr2.out.trans hk3 (by simp));have e0:=HB3.out.cell 0 (v:=.int .i64 k) (by rw [HM1.out];rfl);have cH:=aa (iD w3 k);clear hk3 HZ2 HZ20 HLb HOb HTb HM1 HA2 HKr2 HK3;go_upto_region 9 with (go_at_call 27;refine cH.out.mono ?_;clear cH;rintro _ _ ⟨rfl,rfl⟩)
 obtain ⟨T,hT⟩:∃ T,T=ae (eM k):=⟨_,rfl⟩;rw [← hT];have HT:=aa hT;clear hT;go_upto_if 36 with fail
 go_cut [] from 11 (fun wx=>yu w1.heap.size w1.heap.size Wp w2.heap.size y1 kq.2 wx)
 case first =>
  by_cases hsh:bc k=[]
  ·have HKQ:Hid (kq.2=([],aO s1.2)):=by show kq.2=_;rw [HKD.out,if_pos hsh]
   have cR:=aa (eT w1.heap.size w1.heap.size w3 s1 HA3.out);have HT1:Hid (eM k=[]):=by show eM k=[];unfold eM;rw [hsh];rfl
   have hTn:T.toList.isEmpty=true:=by rw [HT.out,HT1.out,Go.ByteArray.toList_eq,aY];rfl
   rw [hTn];clear hsh hTn;(go_wp2_with (go_at_call 43;refine cR.out.mono ?_;clear cR;rintro _ w4 ⟨rfl,hA4,hk4⟩;have HA4:=aa hA4;have HK4:=aa hk4;clear hA4 hk4));go_meet
   exact ⟨by rw [HKQ.out];exact HA4,HB3.out.kept HK4.out (by simp;omega),HKr3.out.trans HK4.out (by simp)⟩
  ·have HKQ:Hid (kq.2=s1):=by show kq.2=_;rw [HKD.out,if_neg hsh]
   have hTn:T.toList.isEmpty=false:=by rw [HT.out];exact pw hsh
   rw [hTn];clear hsh hTn;(go_wp2_with fail);go_meet
   exact ⟨by rw [HKQ.out];exact HA3,HB3,HKr3⟩
 obtain ⟨HA4,HB4,HK4⟩:=hcut;have e0:wc.cell? ⟨w2.heap.size,0,none⟩=some (.int .i64 k):=HB4.out.cell 0 (by rw [HY1.out];rfl);have cF:=aa (aD w1.heap.size w1.heap.size wc kq.2 HA4.out);have cT:=aa (fun (W2:World) (h:bn w1.heap.size w1.heap.size W2 (az kq.2).2)=>aD w1.heap.size w1.heap.size W2 (az kq.2).2 h);have hNF:ag.num kq.2 0=az kq.2:=rfl;have hNT:ag.num (az kq.2).2 0=az (az kq.2).2:=rfl;rw [hNF] at cF;rw [hNT] at cT;clear hNF hNT HKD;generalize az (az kq.2).2=qt at cT HMS;generalize az kq.2=qf at cF cT HMS;obtain ⟨nf,s2⟩:=qf;obtain ⟨nt,s3⟩:=qt;simp only at cF cT HMS;have HBF:Hid (∀ W2,ab [w1.heap.size] wc W2→Bx W2 w2.heap.size 36 (aX y1)):=fun W2 h=>HB4.out.kept h (by simp;omega);have HBT:Hid (∀ W2,ab [w1.heap.size] wc W2→(Bx (W2.setCell ⟨w2.heap.size,1,none⟩ (.int .i64 nf)) w2.heap.size 36 (aX { y1 with f:=nf }))∧ab [w2.heap.size] W2 (W2.setCell ⟨w2.heap.size,1,none⟩ (.int .i64 nf))):=fun W2 h=>⟨(HBF.out W2 h).set 1 (.int .i64 nf),aj _ _ _ _⟩;go_upto_region 13 with (first | (go_at_call 42;refine cF.out.mono ?_;clear cF;rintro _ w5 ⟨rfl,hA5,hk5⟩;have HA5:=aa hA5;have HK5:=aa hk5;have e1:=(HBF.out w5 hk5).cell 1 (v:=.int .i64 0) (by rw [HY1.out];rfl);have f1:=(HBF.out w5 hk5).froz 1;obtain ⟨hB6,hk6⟩:=HBT.out w5 hk5;have HB6:=aa hB6;have HK6:=aa hk6;have HA6:=aa (hA5.kept hk6 (by simp;omega) (by simp;omega));clear hA5 hk5 hB6 hk6) | (go_at_call 42;refine (cT.out _ HA6.out).mono ?_;clear cT;rintro _ w7 ⟨rfl,hA7,hk7⟩;have HA7:=aa hA7;have HK7:=aa hk7;have HB7:=aa (HB6.out.kept hk7 (by simp;omega));have e2:=HB7.out.cell 2 (v:=.int .i64 0) (by rw [HY1.out];rfl);have f2:=HB7.out.froz 2;clear hA7 hk7))
 have HBl:Hid (Bx (w7.setCell ⟨w2.heap.size,2,none⟩ (.int .i64 nt)) w2.heap.size 36 (aX (iV ⟨k,nf,nt,0,0,0,ie,none,0,[],none,0,[],0,bD,none,0,0⟩))):=by
  have h:=HB7.out.set 2 (.int .i64 nt);rw [HY1.out] at h;exact h
 have hkl:ab [w2.heap.size] w7 (w7.setCell ⟨w2.heap.size,2,none⟩ (.int .i64 nt)):=aj _ _ _ _;have HAl:=aa (HA7.out.kept hkl (by simp;omega) (by simp;omega));have hKl:ab [w1.heap.size,w2.heap.size] wc (w7.setCell ⟨w2.heap.size,2,none⟩ (.int .i64 nt)):=(((HK5.out.mono (by simp)).trans HK6.out (by simp)).trans HK7.out (by simp)).trans hkl (by simp);have HKl:Hid (ab [w1.heap.size,w2.heap.size] Wp (w7.setCell ⟨w2.heap.size,2,none⟩ (.int .i64 nt))):=(HK4.out.mono (by simp)).trans hKl (by simp);generalize w7.setCell ⟨w2.heap.size,2,none⟩ (.int .i64 nt)=W8 at HBl HAl HKl ⊢;clear hkl hKl HB7 HA7 HK7 HA6 HK6 HB6 HK5 HA5 e0 e1 e2 f1 f2 HBF HBT HA4 HB4 HK4 HB3 HA3 HKr3 HY1;obtain ⟨y0,iQ⟩:∃ y0:Mm,y0=iV ⟨k,nf,nt,0,0,0,ie,none,0,[],none,0,[],0,bD,none,0,0⟩:=⟨_,rfl⟩;rw [← iQ] at HBl;have HMS0:Hid (y0.ms=bX k nf nt):=by rw [iQ];rfl
 have HE0:Hid (iC (w2.heap.size+1) W8 y0):=by
  rw [iQ];exact ⟨aL.nil _ _,World.ownsRow_nil _ _ _ _,fun z hz=>(by cases hz),Sl.nil _,(by simp [bO,iV,eI]),bq,bJ.nil _ _⟩
 have HTS:Hid (∀ fs,bc k=fs→T.size=fs.length∧∀ i (hi:i < fs.length) h,T[i]'h=tU fs[i]):=by
  intro fs hfs;have h0:=HT.out;unfold eM at h0;rw [hfs] at h0;subst h0;refine ⟨by rw [dr,List.length_map],fun i hi h=>?_⟩;have h1:(ae (fs.map tU))[i]'h=(fs.map tU)[i]'(by simpa using hi):=rfl;rw [h1,List.getElem_map]
 have hfl:=hY k;obtain ⟨fs,hfs⟩:∃ fs,bc k=fs:=⟨_,rfl⟩;have HFS:=aa hfs;have hTs:T.size=fs.length:=(HTS.out fs hfs).1;have HG:=aa (HTS.out fs hfs).2;have HMS2:Hid (mq=aU fs (bX k nf nt) s3):=by show mq=_;rw [← hfs];exact HMS.out
 rw [hfs] at hfl;clear hfs HTS HMS iQ HT;have hcs:w2.heap.size < W8.heap.size:=HBl.out.lt;go_wp2_with fail
 go_loopw [10] (fun iv wr=>yo (w2.heap.size+1) w1.heap.size w1.heap.size w2.heap.size W8 fs (bX k nf nt) s3 iv wr) (fun iv _=>fs.length - (intOf iv).toNat)
 case atStart=>exact ⟨0,y0,rfl,Nat.zero_le _,HBl,HE0,HAl,ab.refl _ _,fun _=>HMS0.out⟩
 case round =>
  obtain ⟨i,y,rfl,hi,HBi,HEi,HAi,HKi,HYi⟩:=hrel;have hszi:w2.heap.size < wr.heap.size:=HBi.out.lt;by_cases hlt:i < fs.length
  ·have hlt':(i:Int) < fs.length:=by omega
   have hix:=HG.out i hlt
   have HNX:Hid (aU (fs.take (i+1)) (bX k nf nt) s3=gw fs[i] (aU (fs.take i) (bX k nf nt) s3).1 (aU (fs.take i) (bX k nf nt) s3).2):=by
    show _=_;rw [List.take_succ_eq_append_getElem hlt,kG]
   go_upto_region 17 with fail
   have HBK:Hid ((aU (fs.take (i+1)) (bX k nf nt) s3).2.2=0→(aU (fs.take i) (bX k nf nt) s3).2.2=0):=by
    intro h;rw [HNX.out] at h;exact tS fs[i] _ _ HAi.out.nl h
   generalize aU (fs.take i) (bX k nf nt) s3=R at HNX HAi HYi HBK;obtain ⟨m1,st⟩:=R;simp only at HNX HAi HYi HBK;generalize fs[i]=f at HNX ⊢;cases f with
   | B =>
     have cN:=aD w1.heap.size w1.heap.size wr st HAi.out;obtain ⟨q,hq⟩:∃ q,q=ag.num st 0:=⟨_,rfl⟩;rw [← hq] at cN;have HN2:Hid (aU (fs.take (i+1)) (bX k nf nt) s3=({ m1 with b:=q.1 },q.2)):=by show _=_;rw [HNX.out,hq];rfl
     have HCN:=aa cN;obtain ⟨n9,s9⟩:=q;simp only at HCN HN2;clear hq cN HNX;(go_wp2_with (go_at_call 42;refine HCN.out.mono ?_;clear HCN;rintro _ w9 ⟨rfl,hA9,hk9⟩;have HA9:=aa hA9;have HK9:=aa hk9;have hB9:=HBi.out.kept hk9 (by simp;omega);have e9:=hB9.cell 3 rfl;have f9:=hB9.froz 3;have HBf:=aa (hB9.set 3 (.int .i64 n9));have hkf:ab [w2.heap.size] w9 (w9.setCell ⟨w2.heap.size,3,none⟩ (.int .i64 n9)):=aj _ _ _ _;have HKf:=aa hkf;clear hA9 hk9 hB9 hkf));have HAf:=HA9.out.kept HKf.out (by simp;omega) (by simp;omega);have HKk:Hid (ab [w1.heap.size,w2.heap.size] W8 (w9.setCell ⟨w2.heap.size,3,none⟩ (.int .i64 n9))):=(HKi.out.trans HK9.out (by simp)).trans HKf.out (by simp);have hEf:=(HEi.out.low HK9.out (by simp;omega)).low HKf.out (by simp);have HEf:Hid (iC (w2.heap.size+1) (w9.setCell ⟨w2.heap.size,3,none⟩ (.int .i64 n9)) { y with b:=n9 }):=⟨hEf.x,hEf.v,hEf.vx,hEf.i,hEf.ib,hEf.o,hEf.r⟩;have HAn:Hid (bn w1.heap.size w1.heap.size (w9.setCell ⟨w2.heap.size,3,none⟩ (.int .i64 n9)) (aU (fs.take (i+1)) (bX k nf nt) s3).2):=by show bn _ _ _ _;rw [HN2.out];exact HAf
     have HYn:Hid ((aU (fs.take (i+1)) (bX k nf nt) s3).2.2=0→Mm.ms { y with b:=n9 }=(aU (fs.take (i+1)) (bX k nf nt) s3).1):=by
      intro h;rw [HN2.out] at h ⊢;have h2:=HYi.out (HBK.out (by rw [HN2.out];exact h));show { y.ms with b:=n9 }=_;rw [h2]
     clear HAf hEf e9 f9;go_roundw
     case rel=>exact ⟨i+1,{ y with b:=n9 },by go_num,by omega,HBf,HEf,HAn,HKk,HYn⟩
     case measure=>simp [intOf];omega
   | S =>
     have cN:=aD w1.heap.size w1.heap.size wr st HAi.out;obtain ⟨q,hq⟩:∃ q,q=ag.num st 0:=⟨_,rfl⟩;rw [← hq] at cN;have HN2:Hid (aU (fs.take (i+1)) (bX k nf nt) s3=({ m1 with s:=q.1 },q.2)):=by show _=_;rw [HNX.out,hq];rfl
     have HCN:=aa cN;obtain ⟨n9,s9⟩:=q;simp only at HCN HN2;clear hq cN HNX;(go_wp2_with (go_at_call 42;refine HCN.out.mono ?_;clear HCN;rintro _ w9 ⟨rfl,hA9,hk9⟩;have HA9:=aa hA9;have HK9:=aa hk9;have hB9:=HBi.out.kept hk9 (by simp;omega);have e9:=hB9.cell 4 rfl;have f9:=hB9.froz 4;have HBf:=aa (hB9.set 4 (.int .i64 n9));have hkf:ab [w2.heap.size] w9 (w9.setCell ⟨w2.heap.size,4,none⟩ (.int .i64 n9)):=aj _ _ _ _;have HKf:=aa hkf;clear hA9 hk9 hB9 hkf));have HAf:=HA9.out.kept HKf.out (by simp;omega) (by simp;omega);have HKk:Hid (ab [w1.heap.size,w2.heap.size] W8 (w9.setCell ⟨w2.heap.size,4,none⟩ (.int .i64 n9))):=(HKi.out.trans HK9.out (by simp)).trans HKf.out (by simp);have hEf:=(HEi.out.low HK9.out (by simp;omega)).low HKf.out (by simp);have HEf:Hid (iC (w2.heap.size+1) (w9.setCell ⟨w2.heap.size,4,none⟩ (.int .i64 n9)) { y with s:=n9 }):=⟨hEf.x,hEf.v,hEf.vx,hEf.i,hEf.ib,hEf.o,hEf.r⟩;have HAn:Hid (bn w1.heap.size w1.heap.size (w9.setCell ⟨w2.heap.size,4,none⟩ (.int .i64 n9)) (aU (fs.take (i+1)) (bX k nf nt) s3).2):=by show bn _ _ _ _;rw [HN2.out];exact HAf
     have HYn:Hid ((aU (fs.take (i+1)) (bX k nf nt) s3).2.2=0→Mm.ms { y with s:=n9 }=(aU (fs.take (i+1)) (bX k nf nt) s3).1):=by
      intro h;rw [HN2.out] at h ⊢;have h2:=HYi.out (HBK.out (by rw [HN2.out];exact h));show { y.ms with s:=n9 }=_;rw [h2]
     clear HAf hEf e9 f9;go_roundw
     case rel=>exact ⟨i+1,{ y with s:=n9 },by go_num,by omega,HBf,HEf,HAn,HKk,HYn⟩
     case measure=>simp [intOf];omega
   | T =>
     have cN:=aD w1.heap.size w1.heap.size wr st HAi.out;obtain ⟨q,hq⟩:∃ q,q=ag.num st 0:=⟨_,rfl⟩;rw [← hq] at cN;have HN2:Hid (aU (fs.take (i+1)) (bX k nf nt) s3=({ m1 with m:=q.1 },q.2)):=by show _=_;rw [HNX.out,hq];rfl
     have HCN:=aa cN;obtain ⟨n9,s9⟩:=q;simp only at HCN HN2;clear hq cN HNX;(go_wp2_with (go_at_call 42;refine HCN.out.mono ?_;clear HCN;rintro _ w9 ⟨rfl,hA9,hk9⟩;have HA9:=aa hA9;have HK9:=aa hk9;have hB9:=HBi.out.kept hk9 (by simp;omega);have e9:=hB9.cell 5 rfl;have f9:=hB9.froz 5;have HBf:=aa (hB9.set 5 (.int .i64 n9));have hkf:ab [w2.heap.size] w9 (w9.setCell ⟨w2.heap.size,5,none⟩ (.int .i64 n9)):=aj _ _ _ _;have HKf:=aa hkf;clear hA9 hk9 hB9 hkf));have HAf:=HA9.out.kept HKf.out (by simp;omega) (by simp;omega);have HKk:Hid (ab [w1.heap.size,w2.heap.size] W8 (w9.setCell ⟨w2.heap.size,5,none⟩ (.int .i64 n9))):=(HKi.out.trans HK9.out (by simp)).trans HKf.out (by simp);have hEf:=(HEi.out.low HK9.out (by simp;omega)).low HKf.out (by simp);have HEf:Hid (iC (w2.heap.size+1) (w9.setCell ⟨w2.heap.size,5,none⟩ (.int .i64 n9)) { y with m:=n9 }):=⟨hEf.x,hEf.v,hEf.vx,hEf.i,hEf.ib,hEf.o,hEf.r⟩;have HAn:Hid (bn w1.heap.size w1.heap.size (w9.setCell ⟨w2.heap.size,5,none⟩ (.int .i64 n9)) (aU (fs.take (i+1)) (bX k nf nt) s3).2):=by show bn _ _ _ _;rw [HN2.out];exact HAf
     have HYn:Hid ((aU (fs.take (i+1)) (bX k nf nt) s3).2.2=0→Mm.ms { y with m:=n9 }=(aU (fs.take (i+1)) (bX k nf nt) s3).1):=by
      intro h;rw [HN2.out] at h ⊢;have h2:=HYi.out (HBK.out (by rw [HN2.out];exact h));show { y.ms with m:=n9 }=_;rw [h2]
     clear HAf hEf e9 f9;go_roundw
     case rel=>exact ⟨i+1,{ y with m:=n9 },by go_num,by omega,HBf,HEf,HAn,HKk,HYn⟩
     case measure=>simp [intOf];omega
   | V =>
     have cN:=kH w1.heap.size w1.heap.size wr st HAi.out;obtain ⟨q,hq⟩:∃ q,q=aT ag st cl:=⟨_,rfl⟩;unfold aR at cN;rw [← hq] at cN;have HN2:Hid (aU (fs.take (i+1)) (bX k nf nt) s3=({ m1 with v:=q.1 },q.2)):=by show _=_;rw [HNX.out,hq];rfl
     obtain ⟨n9,s9⟩:=q;simp only at cN HN2;obtain ⟨qv,hqv⟩:∃ qv,qv=if s9.2=0 then n9 else cl:=⟨_,rfl⟩
     have HQV:Hid (s9.2=0→qv=n9):=fun h=>by rw [hqv,if_pos h]
     rw [← hqv] at cN;have HCN:=aa cN;have HTR:Hid (∀ lo ln lc,aq Tryz.prog 29 (bp ⟨qv,lo,ln,lc⟩).length):=fun _ _ _=>ar;have HLR:Hid (∀ lo ln lc,(bp y.x).length=(bp ⟨qv,lo,ln,lc⟩).length):=fun _ _ _=>rfl;have HOR:Hid (∀ lo ln lc,∀ v∈bp ⟨qv,lo,ln,lc⟩,v.oneCell'=true):=fun _ _ _=>gR _;clear hq cN HNX hqv;(go_wp2_with (first | (go_at_call 44;refine HCN.out.mono ?_;clear HCN;rintro _ w9 ⟨v9,rfl,hO9,hA9,hk9⟩;have HA9:=aa hA9;have HK9:=aa hk9;obtain ⟨lo,ln,lc,rfl⟩:=dC hO9;have HO9:=aa hO9;have hB9:=HBi.out.kept hk9 (by simp;omega);rw [iX] at hB9;have HB9:=aa hB9;clear hA9 hk9 hB9 hO9) | ((refine di (o:=6) HB9.out ?_ (HLR.out lo ln lc) (HOR.out lo ln lc) (HTR.out lo ln lc) ?_ ?_ ?_);rfl;rfl;rfl;intro wq HBq0 HKf)));have HBf:Hid (Bx wq w2.heap.size 36 (aX { y with x:=⟨qv,lo,ln,lc⟩ })):=by show Bx _ _ _ _;rw [iX];exact HBq0.out
     have HAf:=HA9.out.kept HKf.out (by simp;omega) (by simp;omega);have HKk:Hid (ab [w1.heap.size,w2.heap.size] W8 wq):=(HKi.out.trans HK9.out (by simp)).trans HKf.out (by simp);have hEf:=(HEi.out.low HK9.out (by simp;omega)).low HKf.out (by simp);have hOf:aL (w2.heap.size+1) wq (.slice lo ln lc) qv.c:=aL.mono (bk HO9.out HKf.out (by simp;omega)) (by omega);have HEf:Hid (iC (w2.heap.size+1) wq { y with x:=⟨qv,lo,ln,lc⟩ }):=⟨hOf,hEf.v,hEf.vx,hEf.i,hEf.ib,hEf.o,hEf.r⟩;have HAn:Hid (bn w1.heap.size w1.heap.size wq (aU (fs.take (i+1)) (bX k nf nt) s3).2):=by show bn _ _ _ _;rw [HN2.out];exact HAf
     have HYn:Hid ((aU (fs.take (i+1)) (bX k nf nt) s3).2.2=0→Mm.ms { y with x:=⟨qv,lo,ln,lc⟩ }=(aU (fs.take (i+1)) (bX k nf nt) s3).1):=by
      intro h;rw [HN2.out] at h ⊢;have h2:=HYi.out (HBK.out (by rw [HN2.out];exact h));show { y.ms with v:=qv }=_;rw [h2,HQV.out h]
     clear HAf hEf hOf HBq0;go_roundw
     case rel=>exact ⟨i+1,{ y with x:=⟨qv,lo,ln,lc⟩ },by go_num,by omega,HBf,HEf,HAn,HKk,HYn⟩
     case measure=>simp [intOf];omega
   | L =>
     have cN:=qQ w1.heap.size w1.heap.size wr st HAi.out;obtain ⟨q,hq⟩:∃ q,q=gm st:=⟨_,rfl⟩;rw [← hq] at cN;have HN2:Hid (aU (fs.take (i+1)) (bX k nf nt) s3=({ m1 with l:=q.1 },q.2)):=by show _=_;rw [HNX.out,hq];rfl
     have HCN:=aa cN;obtain ⟨n9,s9⟩:=q;simp only at HCN HN2;clear hq cN HNX;(go_wp2_with (go_at_call 45;refine HCN.out.mono ?_;clear HCN;rintro _ w9 ⟨v9,L9,rfl,⟨D9,hR9,hW9,hL9⟩,hA9,hk9,hq9⟩;obtain ⟨lo,lc,rfl,_⟩:=ka hR9;have HR9:=aa hR9;have HW9:=aa hW9;have HL9:=aa hL9;have HQ9:=aa hq9;have HA9:=aa hA9;have HK9:=aa hk9;have hB9:=HBi.out.kept hk9 (by simp;omega);have e9:=hB9.cell 17 rfl;have f9:=hB9.froz 17;have HBf:Hid (Bx (w9.setCell ⟨w2.heap.size,17,none⟩ (.slice lo D9.length lc)) w2.heap.size 36 (aX { y with vo:=lo,vc:=lc,D:=D9 })):=(hB9.set 17 (.slice lo D9.length lc));have hkf:ab [w2.heap.size] w9 (w9.setCell ⟨w2.heap.size,17,none⟩ (.slice lo D9.length lc)):=aj _ _ _ _;have HKf:=aa hkf;clear hA9 hk9 hB9 hkf hR9 hW9 hL9 hq9));have HAf:=HA9.out.kept HKf.out (by simp;omega) (by simp;omega);have HKk:Hid (ab [w1.heap.size,w2.heap.size] W8 (w9.setCell ⟨w2.heap.size,17,none⟩ (.slice lo D9.length lc))):=(HKi.out.trans HK9.out (by simp)).trans HKf.out (by simp);have hEf:=(HEi.out.low HK9.out (by simp;omega)).low HKf.out (by simp);have hRf:eC (w2.heap.size+1) (w9.setCell ⟨w2.heap.size,17,none⟩ (.slice lo D9.length lc)) (.slice lo D9.length lc) D9:=eC.mono (bk HR9.out HKf.out (by simp;omega)) (by omega);have hWf:∀ z∈D9,aL (w2.heap.size+1) (w9.setCell ⟨w2.heap.size,17,none⟩ (.slice lo D9.length lc)) (.slice z.x.mo z.x.m z.x.mc) z.x.r.c:=fun z hz=>aL.mono (bk (HW9.out z hz) HKf.out (by simp;omega)) (by omega);have HEf:Hid (iC (w2.heap.size+1) (w9.setCell ⟨w2.heap.size,17,none⟩ (.slice lo D9.length lc)) { y with vo:=lo,vc:=lc,D:=D9 }):=⟨hEf.x,hRf,hWf,hEf.i,hEf.ib,hEf.o,hEf.r⟩;have HAn:Hid (bn w1.heap.size w1.heap.size (w9.setCell ⟨w2.heap.size,17,none⟩ (.slice lo D9.length lc)) (aU (fs.take (i+1)) (bX k nf nt) s3).2):=by show bn _ _ _ _;rw [HN2.out];exact HAf
     have HYn:Hid ((aU (fs.take (i+1)) (bX k nf nt) s3).2.2=0→Mm.ms { y with vo:=lo,vc:=lc,D:=D9 }=(aU (fs.take (i+1)) (bX k nf nt) s3).1):=by
      intro h;rw [HN2.out] at h ⊢;have h2:=HYi.out (HBK.out (by rw [HN2.out];exact h));show { y.ms with l:=D9.map Vm.v }=_;rw [h2,HL9.out,HQ9.out h]
     clear HAf hEf e9 f9 hRf hWf;go_roundw
     case rel=>exact ⟨i+1,{ y with vo:=lo,vc:=lc,D:=D9 },by go_num,by omega,HBf,HEf,HAn,HKk,HYn⟩
     case measure=>simp [intOf];omega
   | I =>
     have cN:=rG w1.heap.size w1.heap.size wr st HAi.out;have hoc:bi (oA st).1:=kJ HAi.out.oct;obtain ⟨q,hq⟩:∃ q,q=oA st:=⟨_,rfl⟩;rw [← hq] at cN hoc;have HN2:Hid (aU (fs.take (i+1)) (bX k nf nt) s3=({ m1 with i:=q.1 },q.2)):=by show _=_;rw [HNX.out,hq];rfl
     have HCN:=aa cN;have HOC:=aa hoc;obtain ⟨n9,s9⟩:=q;simp only at HCN HN2 HOC;clear hq cN HNX hoc;(go_wp2_with (go_at_call 46;refine HCN.out.mono ?_;clear HCN;rintro _ w9 ⟨lo,ln,lc,rfl,hS9,hN9,hA9,hk9⟩;obtain rfl:=hS9.1;have HS9:=aa hS9;have HN9:=aa hN9;have HA9:=aa hA9;have HK9:=aa hk9;have hB9:=HBi.out.kept hk9 (by simp;omega);have e9:=hB9.cell 18 rfl;have f9:=hB9.froz 18;have HBf:Hid (Bx (w9.setCell ⟨w2.heap.size,18,none⟩ (.slice lo n9.length lc)) w2.heap.size 36 (aX { y with io:=lo,ic:=lc,i:=n9 })):=(hB9.set 18 (.slice lo n9.length lc));have hkf:ab [w2.heap.size] w9 (w9.setCell ⟨w2.heap.size,18,none⟩ (.slice lo n9.length lc)):=aj _ _ _ _;have HKf:=aa hkf;clear hA9 hk9 hB9 hkf hS9 hN9));have HAf:=HA9.out.kept HKf.out (by simp;omega) (by simp;omega);have HKk:Hid (ab [w1.heap.size,w2.heap.size] W8 (w9.setCell ⟨w2.heap.size,18,none⟩ (.slice lo n9.length lc))):=(HKi.out.trans HK9.out (by simp)).trans HKf.out (by simp);have hEf:=(HEi.out.low HK9.out (by simp;omega)).low HKf.out (by simp);have hSf:Sl (w9.setCell ⟨w2.heap.size,18,none⟩ (.slice lo n9.length lc)) lo n9.length lc n9:=Sl.kept HKf.out HS9.out (fun k hk hm=>by have:=HN9.out k hk;simp at hm;omega);have hIb:∀ k∈bO lo,w2.heap.size+1≤k:=fun k hk=>by have:=HN9.out k hk;omega
     have HEf:Hid (iC (w2.heap.size+1) (w9.setCell ⟨w2.heap.size,18,none⟩ (.slice lo n9.length lc)) { y with io:=lo,ic:=lc,i:=n9 }):=⟨hEf.x,hEf.v,hEf.vx,hSf,hIb,HOC.out,hEf.r⟩;have HAn:Hid (bn w1.heap.size w1.heap.size (w9.setCell ⟨w2.heap.size,18,none⟩ (.slice lo n9.length lc)) (aU (fs.take (i+1)) (bX k nf nt) s3).2):=by show bn _ _ _ _;rw [HN2.out];exact HAf
     have HYn:Hid ((aU (fs.take (i+1)) (bX k nf nt) s3).2.2=0→Mm.ms { y with io:=lo,ic:=lc,i:=n9 }=(aU (fs.take (i+1)) (bX k nf nt) s3).1):=by
      intro h;rw [HN2.out] at h ⊢;have h2:=HYi.out (HBK.out (by rw [HN2.out];exact h));show { y.ms with i:=n9 }=_;rw [h2]
     clear HAf hEf e9 f9 hSf hIb;go_roundw
     case rel=>exact ⟨i+1,{ y with io:=lo,ic:=lc,i:=n9 },by go_num,by omega,HBf,HEf,HAn,HKk,HYn⟩
     case measure=>simp [intOf];omega
   | N =>
     have cN:=aD w1.heap.size w1.heap.size wr st HAi.out;obtain ⟨q,hq⟩:∃ q,q=ag.num st 0:=⟨_,rfl⟩;rw [← hq] at cN;have HN2:Hid (aU (fs.take (i+1)) (bX k nf nt) s3=({ m1 with n:=q.1 },q.2)):=by show _=_;rw [HNX.out,hq];rfl
     have HCN:=aa cN;obtain ⟨n9,s9⟩:=q;simp only at HCN HN2;clear hq cN HNX;(go_wp2_with (go_at_call 42;refine HCN.out.mono ?_;clear HCN;rintro _ w9 ⟨rfl,hA9,hk9⟩;have HA9:=aa hA9;have HK9:=aa hk9;have hB9:=HBi.out.kept hk9 (by simp;omega);have e9:=hB9.cell 19 rfl;have f9:=hB9.froz 19;have HBf:=aa (hB9.set 19 (.int .i64 n9));have hkf:ab [w2.heap.size] w9 (w9.setCell ⟨w2.heap.size,19,none⟩ (.int .i64 n9)):=aj _ _ _ _;have HKf:=aa hkf;clear hA9 hk9 hB9 hkf));have HAf:=HA9.out.kept HKf.out (by simp;omega) (by simp;omega);have HKk:Hid (ab [w1.heap.size,w2.heap.size] W8 (w9.setCell ⟨w2.heap.size,19,none⟩ (.int .i64 n9))):=(HKi.out.trans HK9.out (by simp)).trans HKf.out (by simp);have hEf:=(HEi.out.low HK9.out (by simp;omega)).low HKf.out (by simp);have HEf:Hid (iC (w2.heap.size+1) (w9.setCell ⟨w2.heap.size,19,none⟩ (.int .i64 n9)) { y with n:=n9 }):=⟨hEf.x,hEf.v,hEf.vx,hEf.i,hEf.ib,hEf.o,hEf.r⟩;have HAn:Hid (bn w1.heap.size w1.heap.size (w9.setCell ⟨w2.heap.size,19,none⟩ (.int .i64 n9)) (aU (fs.take (i+1)) (bX k nf nt) s3).2):=by show bn _ _ _ _;rw [HN2.out];exact HAf
     have HYn:Hid ((aU (fs.take (i+1)) (bX k nf nt) s3).2.2=0→Mm.ms { y with n:=n9 }=(aU (fs.take (i+1)) (bX k nf nt) s3).1):=by
      intro h;rw [HN2.out] at h ⊢;have h2:=HYi.out (HBK.out (by rw [HN2.out];exact h));show { y.ms with n:=n9 }=_;rw [h2]
     clear HAf hEf e9 f9;go_roundw
     case rel=>exact ⟨i+1,{ y with n:=n9 },by go_num,by omega,HBf,HEf,HAn,HKk,HYn⟩
     case measure=>simp [intOf];omega
   | R =>
     have cN:=mI w1.heap.size w1.heap.size wr st HAi.out;obtain ⟨q,hq⟩:∃ q,q=aH ag st bD:=⟨_,rfl⟩;unfold aw at cN;rw [← hq] at cN;have HN2:Hid (aU (fs.take (i+1)) (bX k nf nt) s3=({ m1 with r:=q.1 },q.2)):=by show _=_;rw [HNX.out,hq];rfl
     obtain ⟨n9,s9⟩:=q;simp only at cN HN2;obtain ⟨qv,hqv⟩:∃ qv,qv=if s9.2=0 then n9 else bD:=⟨_,rfl⟩
     have HQV:Hid (s9.2=0→qv=n9):=fun h=>by rw [hqv,if_pos h]
     rw [← hqv] at cN;have HCN:=aa cN;have HTR:Hid (∀ (lo:Option Addr) (ln lc:Nat),aq Tryz.prog 34 (au qv (.slice lo ln lc)).length):=fun _ _ _=>am;have HLR:Hid (∀ (lo:Option Addr) (ln lc:Nat),(au y.r (.slice y.uo y.un y.uc)).length=(au qv (.slice lo ln lc)).length):=fun _ _ _=>rfl;have HOR:Hid (∀ (lo:Option Addr) (ln lc:Nat),∀ v∈au qv (.slice lo ln lc),v.oneCell'=true):=fun _ _ _=>aQ _ _ rfl;clear hq cN HNX hqv;(go_wp2_with (first | (go_at_call 47;refine HCN.out.mono ?_;clear HCN;rintro _ w9 ⟨v9,rfl,hO9,hA9,hk9⟩;have HA9:=aa hA9;have HK9:=aa hk9;obtain ⟨lo,ln,lc,rfl⟩:=fA hO9;have HO9:=aa hO9;have hB9:=HBi.out.kept hk9 (by simp;omega);rw [i2] at hB9;have HB9:=aa hB9;clear hA9 hk9 hB9 hO9) | ((refine di (o:=20) HB9.out ?_ (HLR.out lo ln lc) (HOR.out lo ln lc) (HTR.out lo ln lc) ?_ ?_ ?_);rfl;rfl;rfl;intro wq HBq0 HKf)));have HBf:Hid (Bx wq w2.heap.size 36 (aX { y with r:=qv,uo:=lo,un:=ln,uc:=lc })):=by show Bx _ _ _ _;rw [i2];exact HBq0.out
     have HAf:=HA9.out.kept HKf.out (by simp;omega) (by simp;omega);have HKk:Hid (ab [w1.heap.size,w2.heap.size] W8 wq):=(HKi.out.trans HK9.out (by simp)).trans HKf.out (by simp);have hEf:=(HEi.out.low HK9.out (by simp;omega)).low HKf.out (by simp);have hOf:bJ (w2.heap.size+1) wq (.slice lo ln lc) qv.k:=(HO9.out.off HKf.out (by simp;omega)).mono (by omega);have HEf:Hid (iC (w2.heap.size+1) wq { y with r:=qv,uo:=lo,un:=ln,uc:=lc }):=⟨hEf.x,hEf.v,hEf.vx,hEf.i,hEf.ib,hEf.o,hOf⟩;have HAn:Hid (bn w1.heap.size w1.heap.size wq (aU (fs.take (i+1)) (bX k nf nt) s3).2):=by show bn _ _ _ _;rw [HN2.out];exact HAf
     have HYn:Hid ((aU (fs.take (i+1)) (bX k nf nt) s3).2.2=0→Mm.ms { y with r:=qv,uo:=lo,un:=ln,uc:=lc }=(aU (fs.take (i+1)) (bX k nf nt) s3).1):=by
      intro h;rw [HN2.out] at h ⊢;have h2:=HYi.out (HBK.out (by rw [HN2.out];exact h));show { y.ms with r:=qv }=_;rw [h2,HQV.out h]
     clear HAf hEf hOf HBq0;go_roundw
     case rel=>exact ⟨i+1,{ y with r:=qv,uo:=lo,un:=ln,uc:=lc },by go_num,by omega,HBf,HEf,HAn,HKk,HYn⟩
     case measure=>simp [intOf];omega
  ·have hlt':¬ (i:Int) < fs.length:=by omega
   have hiN:i=fs.length:=by omega
   have HMQ:Hid (aU (fs.take i) (bX k nf nt) s3=mq):=by show _=_;rw [hiN,List.take_length];exact HMS2.out.symm
   rw [HMQ.out] at HAi HYi;obtain ⟨x,st⟩:=mq;simp only at HAi HYi HDD HFM;have cE:=aa (vE w1.heap.size w1.heap.size wr st HAi.out);have HKW:Hid (ab [] w wr):=HKa.out.trans (HKl.out.trans HKi.out (by simp)) (by intro j hj;simp at hj;right;omega);have HZw:Hid (Bx wr w.heap.size 36 br):=HZa.out.kept (HKl.out.trans HKi.out (by simp)) (by simp;omega);have HEZ:Hid (gc st=0→st.2=0):=fun h=>by rw [fE h]
   have HTY:Hid (aq Tryz.prog 36 (aX y).length):=cL;have HOY:=aa (dJ y);have HLY:Hid ((aX y).length=br.length):=rfl;obtain ⟨e2,he2⟩:∃ e2,e2=gc st:=⟨_,rfl⟩;rw [← he2] at HDD HFM HEZ cE;clear he2 hiN HMQ HMS2;by_cases h2:e2=0
   rotate_left
   ·have hq:fu l=(gC,e2):=by rw [HQ3.out,HDD.out,if_pos h2]
    have HQ1:=aa hq;have heb:(e2 != 0)=true:=by simpa using h2
    clear h2 hq;(go_wp2_with (first | (go_at_call 48;refine cE.out.mono ?_;clear cE;rintro _ _ ⟨rfl,rfl⟩) | ((refine ac HZw.out HL0.out HO0.out HT0.out ?_ ?_ ?_);rfl;rfl;intro wz HBz HKz)));refine bodyPost_ret (bY (by rfl) _ (by rfl) HBz.out HT0.out) rfl ?_;rw [HQ1.out];exact ⟨eI,rfl,rfl,iQ _,HKW.out.trans HKz.out (by simp)⟩
   subst h2;have hyx:y.ms=x:=HYi.out (HEZ.out rfl);have hof:=HFM.out rfl;rw [← hyx] at hof;have cC:=oy wr y (HEi.out.hy hof);rw [hyx] at cC;have HOF:=aa hof;have HYX:=aa hyx;clear hof hyx HFM HYi;cases hm:bQ x
   ·have hq:fu l=(gC,4):=by rw [HQ3.out,HDD.out,hm];simp
    have HQ1:=aa hq;rw [hm] at cC;have HC:=aa cC;clear cC hq hm;(go_wp2_with (first | (go_at_call 48;refine cE.out.mono ?_;clear cE;rintro _ _ ⟨rfl,rfl⟩) | ((with_reducible refine ak HBi.out HTY.out ?_ ?_);rfl) | (go_at_call 17;refine HC.out.mono ?_;clear HC;rintro _ w4 ⟨rfl,hk4⟩;have HK4:=aa (HKW.out.trans hk4 (by simp));have HZ4:=aa (HZw.out.kept hk4 (by simp));clear hk4) | ((refine ac HZ4.out HL0.out HO0.out HT0.out ?_ ?_ ?_);rfl;rfl;intro wz HBz HKz)));refine bodyPost_ret (bY (by rfl) _ (by rfl) HBz.out HT0.out) rfl ?_;rw [HQ1.out];exact ⟨eI,rfl,rfl,iQ _,HK4.out.trans HKz.out (by simp)⟩
   ·have hq:fu l=(x,0):=by rw [HQ3.out,HDD.out,hm];simp
    have HQ1:=aa hq;rw [hm] at cC;have HC:=aa cC;clear cC hq hm;(go_wp2_with (first | (go_at_call 48;refine cE.out.mono ?_;clear cE;rintro _ _ ⟨rfl,rfl⟩) | ((with_reducible refine ak HBi.out HTY.out ?_ ?_);rfl) | (go_at_call 17;refine HC.out.mono ?_;clear HC;rintro _ w4 ⟨rfl,hk4⟩;have HK4:=aa (HKW.out.trans hk4 (by simp));have HZ4:=aa (HZw.out.kept hk4 (by simp));have HB4:=aa (HBi.out.kept hk4 (by simp));have HE4:=aa (HEi.out.low hk4 (by simp));clear hk4) | ((with_reducible refine ak HB4.out HTY.out ?_ ?_);rfl) | ((refine ac HZ4.out HLY.out HOY.out HTY.out ?_ ?_ ?_);rfl;rfl;intro wz HBz HKz)));refine bodyPost_ret (bY (by rfl) _ (by rfl) HBz.out HTY.out) rfl ?_;rw [HQ1.out];exact ⟨y,rfl,HYX.out,(HE4.out.low HKz.out (by intro k hk;simp at hk;subst hk;omega)).hy HOF.out,HK4.out.trans HKz.out (by simp)⟩
end Go.Proofs.YtakafmejllilnaaGreat
