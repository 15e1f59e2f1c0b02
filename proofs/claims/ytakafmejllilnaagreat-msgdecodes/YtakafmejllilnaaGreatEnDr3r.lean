/-
  The document's Take: the other kinds; all of it. (Written by mk/mkdtake2.py.)
-/
import Derived.Test.YtakafmejllilnaaGreatEnDr2r
set_option maxHeartbeats 8000000
set_option maxRecDepth 100000
namespace Go.Proofs.YtakafmejllilnaaGreat
open Go.RowKit
theorem qH (B p:Nat) (w:World) (s s1:St) (n:Int) (e1:ag.num s 0=(n,s1)) (hn:8≤n) (hA:bn B p w s):Calls Tryz.prog 44 #[.pointer (some ⟨p,0,none⟩)] w (aR B p w cl ([],aO s1.2)):=by
 have hlt:=hA.lt;obtain ⟨W,hW⟩:∃ W,W=w.alloc (.cells #[.int .i64 0,.string ⟨#[]⟩,.int .i64 0,.int .i64 0,.int .i64 0,.string ⟨#[]⟩,.slice none 0 0,.string ⟨#[]⟩,.int .i64 0,.int .i64 0,.int .i64 0] 29):=⟨_,rfl⟩;have HW:=aa hW;have k0:ab [] w W:=by rw [hW];exact (ab.refl _ _).alloc _
 have HR:Hid (Bx W w.heap.size 29 aJ):=by rw [hW];exact Bx.new w _ aJ
 have hsz:w.heap.size < W.heap.size:=HR.out.lt;have cN:=aD B p W s (hA.kept k0 (by simp) (by simp));rw [e1] at cN;have CN:=aa cN;have HK0:=aa k0;have HLc:Hid (([.int .i64 n,.string ⟨#[]⟩,.int .i64 0,.int .i64 0,.int .i64 0,.string ⟨#[]⟩,.slice none 0 0,.string ⟨#[]⟩,.int .i64 0,.int .i64 0,.int .i64 0]:List Value).length=aJ.length):=rfl;have HOc:Hid (∀ z∈([.int .i64 n,.string ⟨#[]⟩,.int .i64 0,.int .i64 0,.int .i64 0,.string ⟨#[]⟩,.slice none 0 0,.string ⟨#[]⟩,.int .i64 0,.int .i64 0,.int .i64 0]:List Value),z.oneCell'=true):=by intro z hv;simp at hv;rcases hv with rfl | rfl | rfl | rfl | rfl | rfl | rfl | rfl | rfl | rfl | rfl <;> rfl
 have HTc:Hid (aq Tryz.prog 29 ([.int .i64 n,.string ⟨#[]⟩,.int .i64 0,.int .i64 0,.int .i64 0,.string ⟨#[]⟩,.slice none 0 0,.string ⟨#[]⟩,.int .i64 0,.int .i64 0,.int .i64 0]:List Value).length):=ar;clear hW k0 cN hA e1;go_enter Tryz.func44,Tryz.ntmps44;go_upto_region 1 with fail
 rw [← HW.out];go_upto_region 2 with (first | (go_at_call 42;refine CN.out.mono ?_;clear CN;rintro _ wa ⟨rfl,hA1,hk1⟩;have HAa:=aa hA1;have HKa:=aa hk1;have HZ:Hid (Bx (wa.alloc (.cells #[.int .i64 0,.string ⟨#[]⟩,.int .i64 0,.int .i64 0,.int .i64 0,.string ⟨#[]⟩,.slice none 0 0,.string ⟨#[]⟩,.int .i64 0,.int .i64 0,.int .i64 0] 29)) wa.heap.size 29 aJ):=(Bx.new wa _ aJ);clear hA1 hk1) | ((with_reducible refine ac HZ.out HLc.out HOc.out HTc.out ?_ ?_ ?_);rfl;rfl;intro w1 HB1 HKx))
 have hza:=HKa.out.size;have k1:ab [] wa w1:=(ab.refl [] wa).trans (((ab.refl [wa.heap.size] wa).alloc _).trans HKx.out (by simp)) (by intro i hi;simp at hi;right;omega);obtain ⟨bx,hbx⟩:∃ bx,bx=wa.heap.size:=⟨_,rfl⟩;rw [← hbx] at HB1 ⊢;have hb1:w.heap.size < bx:=by omega
 have HA1:=aa (HAa.out.kept k1 (by simp) (by simp));have HR1:=aa ((HR.out.kept HKa.out (by simp;omega)).kept k1 (by simp));have HK1:Hid (ab [p] w w1):=((HK0.out.mono (by simp)).trans HKa.out (by simp)).trans k1 (by simp);clear k1 HKx HZ hbx HAa HKa HLc HOc;have hc0:w1.cell? ⟨bx,0,none⟩=some (.int .i64 n):=HB1.out.cell 0 rfl;have hnd:decide (8≤n)=true:=decide_eq_true hn;have CR:=aa (eT B p w1 s1 HA1.out);have HF2:=aa (fD s1.2);obtain ⟨s2,hs2⟩:∃ s2:St,s2=([],aO s1.2):=⟨_,rfl⟩;rw [← hs2] at CR;have HS2:=aa hs2;have hF:s2.2≠0:=by rw [hs2];exact HF2.out
 clear hs2 HF2;go_upto_region 19 with (go_at_call 43;refine CR.out.mono ?_;clear CR;rintro _ w2 ⟨rfl,hA2,hk2⟩;have HA2:=aa hA2;have HKm:=aa hk2;clear hA2 hk2)
 have hc2:w2.cell? ⟨bx,0,none⟩=some (.int .i64 n):=(HB1.out.kept HKm.out (by simp;omega)).cell 0 rfl;have HR2:=aa (HR1.out.kept HKm.out (by simp;omega));have HK2:=aa (HK1.out.trans HKm.out (by simp));clear hc0;have hfe:=HA2.out.fail;have HLz:Hid ((aJ:List Value).length=aJ.length):=rfl;have HOz:Hid (∀ z∈(aJ:List Value),z.oneCell'=true):=by intro z hv;simp [aJ] at hv;rcases hv with rfl | rfl | rfl | rfl | rfl | rfl | rfl | rfl | rfl | rfl | rfl <;> rfl
 have HTz:Hid (aq Tryz.prog 29 (aJ:List Value).length):=ar;have HG2:Hid (aR B p w cl ([],aO s1.2)=aR B p w cl s2):=by show _=_;rw [HS2.out]
 have HPQ:Hid (aR B p w cl s2=fun r w'=>∃ v,r=.returned (.agg (a4 cl v).toArray)∧aL w.heap.size w' v cl.c∧bn B p w' s2∧ab [p] w w'):=by show _=_;unfold aR;simp only [if_neg hF]
 have hfb:(s2.2 != 0)=true:=by simpa using hF
 have hfc:(s2.2==0)=false:=by simpa using hF
 clear hF;go_wp2_with ((with_reducible refine ac HR2.out HLz.out HOz.out HTz.out ?_ ?_ ?_);rfl;rfl;intro wz HBz HKz)
 refine bodyPost_ret (al (by rfl) _ (by rfl) HBz.out HTz.out) rfl ?_;rw [HG2.out,HPQ.out];exact ⟨.slice none 0 0,rfl,aL.nil _ _,HA2.out.kept HKz.out (by simp;omega) (by simp;omega),HK2.out.trans HKz.out (by simp)⟩
theorem te (B p:Nat) (w:World) (s s1:St) (e1:ag.num s 0=(0,s1)) (hA:bn B p w s):Calls Tryz.prog 44 #[.pointer (some ⟨p,0,none⟩)] w (aR B p w cl s1):=by
 have hlt:=hA.lt;obtain ⟨W,hW⟩:∃ W,W=w.alloc (.cells #[.int .i64 0,.string ⟨#[]⟩,.int .i64 0,.int .i64 0,.int .i64 0,.string ⟨#[]⟩,.slice none 0 0,.string ⟨#[]⟩,.int .i64 0,.int .i64 0,.int .i64 0] 29):=⟨_,rfl⟩;have HW:=aa hW;have k0:ab [] w W:=by rw [hW];exact (ab.refl _ _).alloc _
 have HR:Hid (Bx W w.heap.size 29 aJ):=by rw [hW];exact Bx.new w _ aJ
 have hsz:w.heap.size < W.heap.size:=HR.out.lt;have cN:=aD B p W s (hA.kept k0 (by simp) (by simp));rw [e1] at cN;have CN:=aa cN;have HK0:=aa k0;have HLc:Hid (([.int .i64 0,.string ⟨#[]⟩,.int .i64 0,.int .i64 0,.int .i64 0,.string ⟨#[]⟩,.slice none 0 0,.string ⟨#[]⟩,.int .i64 0,.int .i64 0,.int .i64 0]:List Value).length=aJ.length):=rfl;have HOc:Hid (∀ z∈([.int .i64 0,.string ⟨#[]⟩,.int .i64 0,.int .i64 0,.int .i64 0,.string ⟨#[]⟩,.slice none 0 0,.string ⟨#[]⟩,.int .i64 0,.int .i64 0,.int .i64 0]:List Value),z.oneCell'=true):=by intro z hv;simp at hv;rcases hv with rfl | rfl | rfl | rfl | rfl | rfl | rfl | rfl | rfl | rfl | rfl <;> rfl
 have HTc:Hid (aq Tryz.prog 29 ([.int .i64 0,.string ⟨#[]⟩,.int .i64 0,.int .i64 0,.int .i64 0,.string ⟨#[]⟩,.slice none 0 0,.string ⟨#[]⟩,.int .i64 0,.int .i64 0,.int .i64 0]:List Value).length):=ar;clear hW k0 cN hA e1;go_enter Tryz.func44,Tryz.ntmps44;go_upto_region 1 with fail
 rw [← HW.out];go_upto_region 2 with (first | (go_at_call 42;refine CN.out.mono ?_;clear CN;rintro _ wa ⟨rfl,hA1,hk1⟩;have HAa:=aa hA1;have HKa:=aa hk1;have HZ:Hid (Bx (wa.alloc (.cells #[.int .i64 0,.string ⟨#[]⟩,.int .i64 0,.int .i64 0,.int .i64 0,.string ⟨#[]⟩,.slice none 0 0,.string ⟨#[]⟩,.int .i64 0,.int .i64 0,.int .i64 0] 29)) wa.heap.size 29 aJ):=(Bx.new wa _ aJ);clear hA1 hk1) | ((with_reducible refine ac HZ.out HLc.out HOc.out HTc.out ?_ ?_ ?_);rfl;rfl;intro w1 HB1 HKx))
 have hza:=HKa.out.size;have k1:ab [] wa w1:=(ab.refl [] wa).trans (((ab.refl [wa.heap.size] wa).alloc _).trans HKx.out (by simp)) (by intro i hi;simp at hi;right;omega);obtain ⟨bx,hbx⟩:∃ bx,bx=wa.heap.size:=⟨_,rfl⟩;rw [← hbx] at HB1 ⊢;have hb1:w.heap.size < bx:=by omega
 have HA1:=aa (HAa.out.kept k1 (by simp) (by simp));have HR1:=aa ((HR.out.kept HKa.out (by simp;omega)).kept k1 (by simp));have HK1:Hid (ab [p] w w1):=((HK0.out.mono (by simp)).trans HKa.out (by simp)).trans k1 (by simp);clear k1 HKx HZ hbx HAa HKa HLc HOc;have hc0:w1.cell? ⟨bx,0,none⟩=some (.int .i64 0):=HB1.out.cell 0 rfl;have hfe:=HA1.out.fail;have HTe:Hid (aq Tryz.prog 29 ([.int .i64 0,.string ⟨#[]⟩,.int .i64 0,.int .i64 0,.int .i64 0,.string ⟨#[]⟩,.slice none 0 0,.string ⟨#[]⟩,.int .i64 0,.int .i64 0,.int .i64 0]:List Value).length):=ar;have HLe:Hid (([.int .i64 0,.string ⟨#[]⟩,.int .i64 0,.int .i64 0,.int .i64 0,.string ⟨#[]⟩,.slice none 0 0,.string ⟨#[]⟩,.int .i64 0,.int .i64 0,.int .i64 0]:List Value).length=aJ.length):=rfl;have HOe:Hid (∀ z∈([.int .i64 0,.string ⟨#[]⟩,.int .i64 0,.int .i64 0,.int .i64 0,.string ⟨#[]⟩,.slice none 0 0,.string ⟨#[]⟩,.int .i64 0,.int .i64 0,.int .i64 0]:List Value),z.oneCell'=true):=by intro z hv;simp at hv;rcases hv with rfl | rfl | rfl | rfl | rfl | rfl | rfl | rfl | rfl | rfl | rfl <;> rfl
 have HLz:Hid ((aJ:List Value).length=aJ.length):=rfl;have HOz:Hid (∀ z∈(aJ:List Value),z.oneCell'=true):=by intro z hv;simp [aJ] at hv;rcases hv with rfl | rfl | rfl | rfl | rfl | rfl | rfl | rfl | rfl | rfl | rfl <;> rfl
 have HTz:Hid (aq Tryz.prog 29 (aJ:List Value).length):=ar;by_cases hF:s1.2=0
 ·have HPQ:Hid (aR B p w cl s1=fun r w'=>∃ v,r=.returned (.agg (a4 cl v).toArray)∧aL w.heap.size w' v (cl:Rq).c∧bn B p w' s1∧ab [p] w w'):=by show _=_;unfold aR;simp only [if_pos hF]
  rw [hF] at hfe;clear hF;(go_wp2_with (first | ((with_reducible refine ak HB1.out HTe.out ?_ ?_);rfl) | ((with_reducible refine ac HR1.out HLe.out HOe.out HTe.out ?_ ?_ ?_);rfl;rfl;intro wz HBz HKz)));refine bodyPost_ret (al (by rfl) _ (by rfl) HBz.out HTe.out) rfl ?_;rw [HPQ.out];exact ⟨.slice none 0 0,rfl,aL.nil _ _,HA1.out.kept HKz.out (by simp;omega) (by simp;omega),HK1.out.trans HKz.out (by simp)⟩
 ·have HPQ:Hid (aR B p w cl s1=fun r w'=>∃ v,r=.returned (.agg (a4 cl v).toArray)∧aL w.heap.size w' v cl.c∧bn B p w' s1∧ab [p] w w'):=by show _=_;unfold aR;simp only [if_neg hF]
  have hfb:(s1.2 != 0)=true:=by simpa using hF
  have hfc:(s1.2==0)=false:=by simpa using hF
  clear hF;(go_wp2_with ((with_reducible refine ac HR1.out HLz.out HOz.out HTz.out ?_ ?_ ?_);rfl;rfl;intro wz HBz HKz));refine bodyPost_ret (al (by rfl) _ (by rfl) HBz.out HTz.out) rfl ?_;rw [HPQ.out];exact ⟨.slice none 0 0,rfl,aL.nil _ _,HA1.out.kept HKz.out (by simp;omega) (by simp;omega),HK1.out.trans HKz.out (by simp)⟩
theorem np {e:Int}{l:List Int}(h:(an e l).1≠0):(an e l).2.1=0:=by
 unfold an at h ⊢;split
 ·rename_i he
  rw [if_pos he] at h;rcases en 6 0 0 l with ⟨h1,k,h2⟩ | ⟨_,h2⟩
  ·exact absurd h1 h
  ·show (fq 6 0 0 l).2.1=0;rw [h2]
 ·rfl
theorem rc (s:St) (t:Int) (h:¬ t < (ag.num s 0).1):ag.upTo s 0 t=ag.num s 0:=by
 have h':¬ t < (an s.2 s.1).2.1:=h;show (if _ then _ else _)=_;rw [if_neg h'];rfl
theorem rH (s:St) (t:Int) (h:t < (ag.num s 0).1):ag.upTo s 0 t=(0,([],aO (ag.num s 0).2.2)):=by
 have h':t < (an s.2 s.1).2.1:=h;show (if _ then _ else _)=_;rw [if_pos h'];rfl
theorem kH (B p:Nat) (w:World) (s:St) (hA:bn B p w s):Calls Tryz.prog 44 #[.pointer (some ⟨p,0,none⟩)] w (aR B p w (aT ag s cl).1 (aT ag s cl).2):=by
 have hnn:0≤(ag.num s 0).1:=dl hA.oct;have hz:(ag.num s 0).2.2≠0→(ag.num s 0).1=0:=fun h=>np h;have hnl:Nl (ag.num s 0).2:=d8 aG s hA.nl;have hu:¬ 7 < (ag.num s 0).1→ag.upTo s cl.k 7=ag.num s 0:=rc s 7;have hb:7 < (ag.num s 0).1→ag.upTo s cl.k 7=(0,([],aO (ag.num s 0).2.2)):=rH s 7;obtain ⟨n,hn⟩:∃ n,n=(ag.num s 0).1:=⟨_,rfl⟩;obtain ⟨s1,hs1⟩:∃ s1,s1=(ag.num s 0).2:=⟨_,rfl⟩;have e1:ag.num s 0=(n,s1):=by rw [hn,hs1]
 rw [e1] at hnn hz hnl hu hb;simp only at hnn hz hnl hu hb;by_cases hbig:7 < n
 ·have e:aT ag s cl=(cl,([],aO s1.2)):=by unfold aT dB;rw [hb hbig];rfl
  rw [e];exact qH B p w s s1 n e1 (by omega) hA
 have hu':=hu hbig;by_cases h0:n=0
 ·rw [h0] at e1 hu';have e:aT ag s cl=(cl,s1):=by unfold aT dB;rw [hu'];rfl
  rw [e];exact te B p w s s1 e1 hA
 have hs0:s1.2=0:=by
  by_cases h:s1.2=0
  ·exact h
  ·exact absurd (hz h) h0
 by_cases h1:n=1
 ·rw [h1] at e1 hu';have e:aT ag s cl=(⟨1,(ag.text s1 []).1,0,0,0,[],[],[],0,0,0⟩,(ag.text s1 []).2):=by unfold aT dB;rw [hu'];rfl
  rw [e];exact sZ B p w s s1 _ _ e1 hs0 rfl hA
 by_cases h2:n=2
 ·rw [h2] at e1 hu';have e:aT ag s cl=(⟨2,[],(ag.num s1 0).1,(ag.num (ag.num s1 0).2 0).1,(ag.num (ag.num (ag.num s1 0).2 0).2 0).1,(ag.text (ag.num (ag.num (ag.num s1 0).2 0).2 0).2 []).1,(aP ag (bz ag) fd (ag.text (ag.num (ag.num (ag.num s1 0).2 0).2 0).2 []).2 [] 64).1,[],0,0,0⟩,(aP ag (bz ag) fd (ag.text (ag.num (ag.num (ag.num s1 0).2 0).2 0).2 []).2 [] 64).2):=by unfold aT dB et fF fB;rw [hu'];rfl
  rw [e];have hl:=lX (bz ag) fd lV 64 (ag.text (ag.num (ag.num (ag.num s1 0).2 0).2 0).2 []).2 (d8 dE _ (d8 aG _ (d8 aG _ (d8 aG _ hnl))));have l1:(aP ag (bz ag) fd (ag.text (ag.num (ag.num (ag.num s1 0).2 0).2 0).2 []).2 [] 64).2=(fK dq 64 (ag.text (ag.num (ag.num (ag.num s1 0).2 0).2 0).2 []).2).2:=hl.1;have l2:(fK dq 64 (ag.text (ag.num (ag.num (ag.num s1 0).2 0).2 0).2 []).2).2.2=0→(aP ag (bz ag) fd (ag.text (ag.num (ag.num (ag.num s1 0).2 0).2 0).2 []).2 [] 64).1=(fK dq 64 (ag.text (ag.num (ag.num (ag.num s1 0).2 0).2 0).2 []).2).1:=hl.2;have c:=vd B p w s s1 (ag.num s1 0).2 (ag.num (ag.num s1 0).2 0).2 (ag.num (ag.num (ag.num s1 0).2 0).2 0).2 (ag.text (ag.num (ag.num (ag.num s1 0).2 0).2 0).2 []).2 (fK dq 64 (ag.text (ag.num (ag.num (ag.num s1 0).2 0).2 0).2 []).2).2 (ag.num s1 0).1 (ag.num (ag.num s1 0).2 0).1 (ag.num (ag.num (ag.num s1 0).2 0).2 0).1 (ag.text (ag.num (ag.num (ag.num s1 0).2 0).2 0).2 []).1 (fK dq 64 (ag.text (ag.num (ag.num (ag.num s1 0).2 0).2 0).2 []).2).1 e1 hs0 rfl rfl rfl rfl rfl hA;refine c.mono (fun r w' hr=>?_);obtain ⟨v,h3,h4,h5,h6⟩:=hr;generalize (aP ag (bz ag) fd (ag.text (ag.num (ag.num (ag.num s1 0).2 0).2 0).2 []).2 [] 64)=P1 at *;generalize (fK dq 64 (ag.text (ag.num (ag.num (ag.num s1 0).2 0).2 0).2 []).2)=P2 at *;rw [l1];by_cases hz2:P2.2.2=0
  ·rw [l2 hz2];exact ⟨v,h3,h4,h5,h6⟩
  ·rw [if_neg hz2] at h3 h4;exact ⟨v,by rw [if_neg hz2];exact h3,by rw [if_neg hz2];exact h4,h5,h6⟩
 by_cases h4:n=4
 ·rw [h4] at e1 hu';have e:aT ag s cl=(⟨4,[],(ag.num s1 0).1,(ag.num (ag.num s1 0).2 0).1,0,[],[],(ag.text (ag.num (ag.num s1 0).2 0).2 []).1,0,0,0⟩,(ag.text (ag.num (ag.num s1 0).2 0).2 []).2):=by unfold aT dB et fF fB;rw [hu'];rfl
  rw [e];exact tW B p w s s1 _ _ _ _ _ _ e1 hs0 rfl rfl rfl hA
 by_cases h5:n=5
 ·rw [h5] at e1 hu';have e:aT ag s cl=(⟨5,[],(ag.num s1 0).1,(ag.num (ag.num s1 0).2 0).1,0,[],[],[],(ag.num (ag.num (ag.num s1 0).2 0).2 0).1,(ag.num (ag.num (ag.num (ag.num s1 0).2 0).2 0).2 0).1,0⟩,(ag.num (ag.num (ag.num (ag.num s1 0).2 0).2 0).2 0).2):=by unfold aT dB et fF fB;rw [hu'];rfl
  rw [e];exact tH B p w s s1 _ _ _ _ _ _ _ _ e1 hs0 rfl rfl rfl rfl hA
 by_cases h6:n=6
 ·rw [h6] at e1 hu';have e:aT ag s cl=(⟨6,[],(ag.num s1 0).1,(ag.num (ag.num s1 0).2 0).1,0,[],[],[],0,0,(ag.num (ag.num (ag.num s1 0).2 0).2 0).1⟩,(ag.num (ag.num (ag.num s1 0).2 0).2 0).2):=by unfold aT dB et fF fB;rw [hu'];rfl
  rw [e];exact u9 B p w s s1 _ _ _ _ _ _ e1 hs0 rfl rfl rfl hA
 by_cases h7:n=7
 ·rw [h7] at e1 hu';have e:aT ag s cl=(⟨7,[],(ag.num s1 0).1,(ag.num (ag.num s1 0).2 0).1,0,[],[],[],0,0,(ag.num (ag.num (ag.num s1 0).2 0).2 0).1⟩,(ag.num (ag.num (ag.num s1 0).2 0).2 0).2):=by unfold aT dB et fF fB;rw [hu'];rfl
  rw [e];exact tn B p w s s1 _ _ _ _ _ _ e1 hs0 rfl rfl rfl hA
 have h3:n=3:=by omega
 rw [h3] at e1 hu';have e:aT ag s cl=(⟨3,[],(ag.num s1 0).1,(ag.num (ag.num s1 0).2 0).1,0,[],[],[],0,0,0⟩,(ag.num (ag.num s1 0).2 0).2):=by unfold aT dB et fF fB;rw [hu'];rfl
 rw [e];exact tJ B p w s s1 _ _ _ _ e1 hs0 rfl rfl hA
end Go.Proofs.YtakafmejllilnaaGreat
