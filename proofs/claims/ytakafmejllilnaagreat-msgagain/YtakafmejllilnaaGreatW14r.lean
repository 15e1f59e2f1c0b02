/-
  Texts laid as one.
-/
import Derived.Test.YtakafmejllilnaaGreatEnDr5r
import Derived.Test.YtakafmejllilnaaGreatF12r
import Derived.Test.YtakafmejllilnaaGreatW13r
import Derived.Test.YtakafmejllilnaaGreatH2r
import Derived.Test.YtakafmejllilnaaGreatEnDr3r
set_option maxHeartbeats 8000000
set_option maxRecDepth 100000
/-
 The document's Heard,all of it. (Written by mk/mkdheard.py.)
-/
namespace Go.Proofs.YtakafmejllilnaaGreat
open Go.RowKit
theorem oD (B p:Nat) (w:World) (s s1:St) (n:Int) (e1:ag.num s 0=(n,s1)) (hn:15≤n) (hA:bn B p w s):Calls Tryz.prog 47 #[.pointer (some ⟨p,0,none⟩)] w (aw B p w bD ([],aO s1.2)):=by
 have hlt:=hA.lt;obtain ⟨W,hW⟩:∃ W,W=w.alloc (.cells #[.int .i64 0,.int .i64 0,.int .i64 0,.string ⟨#[]⟩,.int .u64 0,.slice none 0 0,.int .i64 0] 34):=⟨_,rfl⟩;have HW:=aa hW;have k0:ab [] w W:=by rw [hW];exact (ab.refl _ _).alloc _
 have HR:Hid (Bx W w.heap.size 34 aA):=by rw [hW];exact Bx.new w _ aA
 have hsz:w.heap.size < W.heap.size:=HR.out.lt;have cN:=aD B p W s (hA.kept k0 (by simp) (by simp));rw [e1] at cN;have CN:=aa cN;have HK0:=aa k0;have HLc:Hid (([.int .i64 n,.int .i64 0,.int .i64 0,.string ⟨#[]⟩,.int .u64 0,.slice none 0 0,.int .i64 0]:List Value).length=aA.length):=rfl;have HOc:Hid (∀ z∈([.int .i64 n,.int .i64 0,.int .i64 0,.string ⟨#[]⟩,.int .u64 0,.slice none 0 0,.int .i64 0]:List Value),z.oneCell'=true):=by intro z hv;simp at hv;rcases hv with rfl | rfl | rfl | rfl | rfl | rfl | rfl <;> rfl
 have HTc:Hid (aq Tryz.prog 34 ([.int .i64 n,.int .i64 0,.int .i64 0,.string ⟨#[]⟩,.int .u64 0,.slice none 0 0,.int .i64 0]:List Value).length):=am;clear hW k0 cN hA e1;go_enter Tryz.func47,Tryz.ntmps47;go_upto_region 1 with fail
 rw [← HW.out];go_upto_region 2 with (first | (go_at_call 42;refine CN.out.mono ?_;clear CN;rintro _ wa ⟨rfl,hA1,hk1⟩;have HAa:=aa hA1;have HKa:=aa hk1;have HZ:Hid (Bx (wa.alloc (.cells #[.int .i64 0,.int .i64 0,.int .i64 0,.string ⟨#[]⟩,.int .u64 0,.slice none 0 0,.int .i64 0] 34)) wa.heap.size 34 aA):=(Bx.new wa _ aA);clear hA1 hk1) | ((with_reducible refine ac HZ.out HLc.out HOc.out HTc.out ?_ ?_ ?_);rfl;rfl;intro w1 HB1 HKx))
 have hza:=HKa.out.size;have k1:ab [] wa w1:=(ab.refl [] wa).trans (((ab.refl [wa.heap.size] wa).alloc _).trans HKx.out (by simp)) (by intro i hi;simp at hi;right;omega);obtain ⟨bx,hbx⟩:∃ bx,bx=wa.heap.size:=⟨_,rfl⟩;rw [← hbx] at HB1 ⊢;have hb1:w.heap.size < bx:=by omega
 have HA1:=aa (HAa.out.kept k1 (by simp) (by simp));have HR1:=aa ((HR.out.kept HKa.out (by simp;omega)).kept k1 (by simp));have HK1:Hid (ab [p] w w1):=((HK0.out.mono (by simp)).trans HKa.out (by simp)).trans k1 (by simp);clear k1 HKx HZ hbx HAa HKa HLc HOc;have hc0:w1.cell? ⟨bx,0,none⟩=some (.int .i64 n):=HB1.out.cell 0 rfl;have hnd:decide (15≤n)=true:=decide_eq_true hn;have CR:=aa (eT B p w1 s1 HA1.out);have HF2:=aa (fD s1.2);obtain ⟨s2,hs2⟩:∃ s2:St,s2=([],aO s1.2):=⟨_,rfl⟩;rw [← hs2] at CR;have HS2:=aa hs2;have hF:s2.2≠0:=by rw [hs2];exact HF2.out
 clear hs2 HF2;have n1:(n==1)=false:=by simp;omega
 have n2:(n==2)=false:=by simp;omega
 have n3:(n==3)=false:=by simp;omega
 have n4:(n==4)=false:=by simp;omega
 have n5:(n==5)=false:=by simp;omega
 have n6:(n==6)=false:=by simp;omega
 have n7:(n==7)=false:=by simp;omega
 have n8:(n==8)=false:=by simp;omega
 have n9:(n==9)=false:=by simp;omega
 have n10:(n==10)=false:=by simp;omega
 have n11:(n==11)=false:=by simp;omega
 have n12:(n==12)=false:=by simp;omega
 have n13:(n==13)=false:=by simp;omega
 have n14:(n==14)=false:=by simp;omega
 go_upto_region 4 with (go_at_call 43;refine CR.out.mono ?_;clear CR;rintro _ w2 ⟨rfl,hA2,hk2⟩;have HA2:=aa hA2;have HKm:=aa hk2;clear hA2 hk2)
 have hc2:w2.cell? ⟨bx,0,none⟩=some (.int .i64 n):=(HB1.out.kept HKm.out (by simp;omega)).cell 0 rfl;have HR2:=aa (HR1.out.kept HKm.out (by simp;omega));have HK2:=aa (HK1.out.trans HKm.out (by simp));clear hc0;have hfe:=HA2.out.fail;have HLz:Hid ((aA:List Value).length=aA.length):=rfl;have HOz:Hid (∀ z∈(aA:List Value),z.oneCell'=true):=by intro z hv;simp [aA] at hv;rcases hv with rfl | rfl | rfl | rfl | rfl | rfl | rfl <;> rfl
 have HTz:Hid (aq Tryz.prog 34 (aA:List Value).length):=am;have HG2:Hid (aw B p w bD ([],aO s1.2)=aw B p w bD s2):=by show _=_;rw [HS2.out]
 have HPQ:Hid (aw B p w bD s2=fun r w'=>∃ v,r=.returned (.agg (au bD v).toArray)∧bJ w.heap.size w' v bD.k∧bn B p w' s2∧ab [p] w w'):=by show _=_;unfold aw;simp only [if_neg hF]
 have hfb:(s2.2 != 0)=true:=by simpa using hF
 have hfc:(s2.2==0)=false:=by simpa using hF
 clear hF;go_wp2_with ((with_reducible refine ac HR2.out HLz.out HOz.out HTz.out ?_ ?_ ?_);rfl;rfl;intro wz HBz HKz)
 refine bodyPost_ret (al (by rfl) _ (by rfl) HBz.out HTz.out) rfl ?_;rw [HG2.out,HPQ.out];exact ⟨.slice none 0 0,rfl,bJ.nil _ _,HA2.out.kept HKz.out (by simp;omega) (by simp;omega),HK2.out.trans HKz.out (by simp)⟩
theorem mI (B p:Nat) (w:World) (s:St) (hA:bn B p w s):Calls Tryz.prog 47 #[.pointer (some ⟨p,0,none⟩)] w (aw B p w (aH ag s bD).1 (aH ag s bD).2):=by
 have hnn:0≤(ag.num s 0).1:=dl hA.oct;have hnl:Nl (ag.num s 0).2:=d8 aG s hA.nl;have hu:¬ 14 < (ag.num s 0).1→ag.upTo s bD.c 14=ag.num s 0:=rc s 14;have hb:14 < (ag.num s 0).1→ag.upTo s bD.c 14=(0,([],aO (ag.num s 0).2.2)):=rH s 14;obtain ⟨n,hn⟩:∃ n,n=(ag.num s 0).1:=⟨_,rfl⟩;obtain ⟨s1,hs1⟩:∃ s1,s1=(ag.num s 0).2:=⟨_,rfl⟩;have e1:ag.num s 0=(n,s1):=by rw [hn,hs1]
 rw [e1] at hnn hnl hu hb;simp only at hnn hnl hu hb;by_cases hbig:14 < n
 ·have e:aH ag s bD=(bD,([],aO s1.2)):=by unfold aH ch co;rw [hb hbig];rfl
  rw [e];exact oD B p w s s1 n e1 (by omega) hA
 have hu':=hu hbig;by_cases h1:n=1
 ·rw [h1] at e1 hu';have e:aH ag s bD=(⟨1,(ag.num s1 0).1,0,[],0,[],0⟩,(ag.num s1 0).2):=by unfold aH ch co;rw [hu'];rfl
  rw [e];exact sr B p w s s1 _ _ e1 rfl hA
 by_cases h2:n=2
 ·rw [h2] at e1 hu';have e:aH ag s bD=(⟨2,0,(ag.num s1 0).1,[],0,[],0⟩,(ag.num s1 0).2):=by unfold aH ch co;rw [hu'];rfl
  rw [e];exact rg B p w s s1 _ _ e1 rfl hA
 by_cases h4:n=4
 ·rw [h4] at e1 hu';have e:aH ag s bD=(⟨4,0,(ag.num s1 0).1,[],0,[],0⟩,(ag.num s1 0).2):=by unfold aH ch co;rw [hu'];rfl
  rw [e];exact sL B p w s s1 _ _ e1 rfl hA
 by_cases h8:n=8
 ·rw [h8] at e1 hu';have e:aH ag s bD=(⟨8,0,(ag.num s1 0).1,[],0,[],0⟩,(ag.num s1 0).2):=by unfold aH ch co;rw [hu'];rfl
  rw [e];exact sq B p w s s1 _ _ e1 rfl hA
 by_cases h3:n=3
 ·rw [h3] at e1 hu';have e:aH ag s bD=(⟨3,0,(ag.num (ag.text s1 []).2 0).1,(ag.text s1 []).1,0,[],0⟩,(ag.num (ag.text s1 []).2 0).2):=by unfold aH ch co;rw [hu'];rfl
  rw [e];exact qR B p w s s1 _ _ _ _ e1 rfl rfl hA
 by_cases h9:n=9
 ·rw [h9] at e1 hu';have e:aH ag s bD=(⟨9,0,(ag.num (ag.word (ag.text s1 []).2 0).2 0).1,(ag.text s1 []).1,(ag.word (ag.text s1 []).2 0).1,[],0⟩,(ag.num (ag.word (ag.text s1 []).2 0).2 0).2):=by unfold aH ch co;rw [hu'];rfl
  rw [e];exact rz B p w s s1 _ _ _ _ _ _ e1 rfl rfl rfl hA
 by_cases h10:n=10
 ·rw [h10] at e1 hu';have e:aH ag s bD=(⟨10,0,0,(ag.text s1 []).1,0,[],0⟩,(ag.text s1 []).2):=by unfold aH ch co;rw [hu'];rfl
  rw [e];exact qm B p w s s1 _ _ e1 rfl hA
 by_cases h11:n=11
 ·rw [h11] at e1 hu';have e:aH ag s bD=(⟨11,0,0,[],0,(aP ag (cn ag) dp s1 [] 32).1,0⟩,(aP ag (cn ag) dp s1 [] 32).2):=by unfold aH ch co;rw [hu'];rfl
  rw [e];have hl:=t4 s1 hnl;have l1:(aP ag (cn ag) dp s1 [] 32).2=(fK dg 32 s1).2:=hl.1;have l2:(fK dg 32 s1).2.2=0→(aP ag (cn ag) dp s1 [] 32).1=(fK dg 32 s1).1:=hl.2;have c:=pR B p w s s1 (fK dg 32 s1).2 (fK dg 32 s1).1 e1 rfl hA;refine c.mono (fun r w' hr=>?_);obtain ⟨v,h3,h4,h5,h6⟩:=hr;generalize (aP ag (cn ag) dp s1 [] 32)=P1 at *;generalize (fK dg 32 s1)=P2 at *;rw [l1];by_cases hz2:P2.2.2=0
  ·rw [l2 hz2];exact ⟨v,h3,h4,h5,h6⟩
  ·rw [if_neg hz2] at h3 h4;exact ⟨v,by rw [if_neg hz2];exact h3,by rw [if_neg hz2];exact h4,h5,h6⟩
 by_cases h12:n=12
 ·rw [h12] at e1 hu';have e:aH ag s bD=(⟨12,0,0,[],0,[],(ag.num s1 0).1⟩,(ag.num s1 0).2):=by unfold aH ch co;rw [hu'];rfl
  rw [e];exact pQ B p w s s1 _ _ e1 rfl hA
 by_cases h13:n=13
 ·rw [h13] at e1 hu';have e:aH ag s bD=(⟨13,0,0,[],0,[],(ag.num s1 0).1⟩,(ag.num s1 0).2):=by unfold aH ch co;rw [hu'];rfl
  rw [e];exact pT B p w s s1 _ _ e1 rfl hA
 by_cases h14:n=14
 ·rw [h14] at e1 hu';have e:aH ag s bD=(⟨14,0,0,[],0,[],(ag.num s1 0).1⟩,(ag.num s1 0).2):=by unfold aH ch co;rw [hu'];rfl
  rw [e];exact qy B p w s s1 _ _ e1 rfl hA
 by_cases h0:n=0
 ·rw [h0] at e1 hu';have e:aH ag s bD=(⟨0,0,0,[],0,[],0⟩,s1):=by unfold aH ch co;rw [hu'];rfl
  rw [e];exact sw B p w s s1 e1 hA
 by_cases h5:n=5
 ·rw [h5] at e1 hu';have e:aH ag s bD=(⟨5,0,0,[],0,[],0⟩,s1):=by unfold aH ch co;rw [hu'];rfl
  rw [e];exact sN B p w s s1 e1 hA
 by_cases h6:n=6
 ·rw [h6] at e1 hu';have e:aH ag s bD=(⟨6,0,0,[],0,[],0⟩,s1):=by unfold aH ch co;rw [hu'];rfl
  rw [e];exact r7 B p w s s1 e1 hA
 have h7:n=7:=by omega
 rw [h7] at e1 hu';have e:aH ag s bD=(⟨7,0,0,[],0,[],0⟩,s1):=by unfold aH ch co;rw [hu'];rfl
 rw [e];exact rt B p w s s1 e1 hA
theorem uq (w:World) (ao:Option Addr) (n c:Nat) (l:List Int) (hS:Sl w ao n c l) (hn:n≤1000000000) (ho:bi l):bn w.heap.size w.heap.size (w.alloc (.cells #[.slice ao n c,.int .i64 0] 81)) (l,0):=by
 have hl:=hS.1;subst hl;exact ⟨⟨ao,c,heap_alloc_new w _,Sl.kept ((ab.refl [] w).alloc _) hS (by simp),fun h k hk=>hS.lt h k hk,Nat.le_refl _,ho,fun h=>absurd rfl h⟩,hn⟩
theorem nc {s:St}{i:Nat}(h:(bP eB i s).2.2≠0) (hn:Nl (bP eB i s).2):∀ n,i≤n→(bP eB n s).2=(bP eB i s).2:=by
 intro n hi;induction n with
 | zero=>rw [show i=0 by omega]
 | succ n ih =>
   by_cases e:i=n+1
   ·rw [e]
   ·rw [jf];show (eB (bP eB n s).2).2=_;rw [ih (by omega)];have h1:=hn h;have h2:=gx.bad _ h;have h3:(bP eB i s).2=([],(bP eB i s).2.2):=Prod.ext h1 rfl;rw [← h3] at h2;exact h2
theorem pF {ops:Array Oper}{rest:List Oper}{a:Act}{w:World}{Q:Exit→Act→World→Prop}{d:Option Tmp}{x:Operand}{ty:TypeId}{ps:String}{af:Array Edge}
 (z:Vm) (hx:a.eval x=.agg (cq z).toArray) (h:wpList Tryz.prog ops Q rest (a.put d (.slice (some ⟨w.heap.size,0,none⟩) 1 1)) (w.alloc (.cells (cq z).toArray 55))) :
 wpList Tryz.prog ops Q (⟨d,.buildSlice 30 1 #[(0,x)],ty,ps,af,none⟩ :: rest) a w:=by
 have hw:Region.wanted (⟨d,.buildSlice 30 1 #[(0,x)],ty,ps,af,none⟩:Oper) (yielded ops a.tmps)=true:=by simp [Region.wanted]
 unfold wpList;rw [if_pos hw];refine Or.inl ?_;unfold Oper.wp execOp;simp only [List.map_toArray,List.map_cons,List.map_nil,hx,Sem.run_bind,ky,Result.andThen_ok,Sem.run_pure];exact h
def yv (B p:Nat) (w:World) (q:List Vo × St) (r:Ending) (w':World):Prop:=∃ v L,r=.returned v∧o3 w.heap.size w' v L∧bn B p w' q.2∧ab [p] w w'∧(q.2.2=0→L=q.1)
def xP (B p:Nat) (w:World) (s1:St) (N:Nat) (lv iv:Value) (wr:World):Prop :=
 ∃ (i:Nat) (L:List Vo),iv=.int .i64 (i:Int)∧i≤N∧Hid (o3 w.heap.size wr lv L)∧Hid (bn B p wr (bP eB i s1).2)∧Hid (ab [p] w wr)∧Hid ((bP eB i s1).2.2=0→L=(bP eB i s1).1)∧Hid (L.length≤i)
theorem qQ (B p:Nat) (w:World) (s:St) (hA:bn B p w s):Calls Tryz.prog 45 #[.pointer (some ⟨p,0,none⟩)] w (yv B p w (gm s)):=by
 have hlt:=hA.lt;have hnn:0≤(ag.num s 0).1:=dl hA.oct;have cN:=aa (aD B p w s hA);have HV1:Hid (4096 < (ag.num s 0).1→gm s=([],([],aO (ag.num s 0).2.2))):=fun h=>nk s h;have HV2:Hid (¬ 4096 < (ag.num s 0).1→gm s=bP eB (ag.num s 0).1.toNat (ag.num s 0).2):=fun h=>nv s h;generalize gm s=res at HV1 HV2 ⊢;have hbig:(ag.num s 0).1≤1099511627776:=ji hA.oct;generalize ag.num s 0=q at *;obtain ⟨nz,s0⟩:=q;obtain ⟨N,rfl⟩:∃ N:Nat,nz=(N:Int):=⟨nz.toNat,by simp only at hnn;omega⟩;simp only at cN HV1 HV2 hbig;clear hnn hA;go_enter Tryz.func45,Tryz.ntmps45;go_upto_region 2 with (go_at_call 42;refine cN.out.mono ?_;clear cN;rintro _ w1 ⟨rfl,hA1,hk1⟩;have HA1:=aa hA1;have HK1:=aa hk1;clear hA1 hk1)
 by_cases hm:4096 < N
 ·have hm':(4096:Int) < N:=by omega
  have HE:Hid (res=([],([],aO s0.2))):=HV1.out hm';have cR:=aa (eT B p w1 s0 HA1.out);obtain ⟨s1,hs1⟩:∃ s1:St,s1=([],aO s0.2):=⟨_,rfl⟩;rw [← hs1] at cR HE;have hf:s1.2≠0:=by rw [hs1];exact fD _
  have HF:=aa hf;have hfb:(s1.2==0)=false:=by simpa using hf
  clear hs1 HV1 HV2 hf;go_upto_region 4 with (go_at_call 43;refine cR.out.mono ?_;clear cR;rintro _ w2 ⟨rfl,hA2,hk2⟩;have HA2:=aa hA2;have HK2:=aa (HK1.out.trans hk2 (by simp));clear hA2 hk2)
  (go_wp2_with fail);go_loopw [4,5] (fun lv iv wr=>xP B p w s1 N lv iv wr) (fun _ iv _=>N - (intOf iv).toNat)
  case atStart=>exact ⟨0,[],rfl,Nat.zero_le _,o3.nil _ _,HA2,HK2,fun _=>rfl,Nat.le_refl _⟩
  case round =>
   obtain ⟨i,L,rfl,hi,HO,HA,HK,HE2,HLi⟩:=hrel
   have HST:Hid ((bP eB i s1).2=s1):=by
    have h:=nc (s:=s1) (i:=0) HF.out (fun h=>by rcases (HA2.out.nl h) with e;exact e) i (Nat.zero_le _);exact h
   have hA3:=HA.out;rw [HST.out] at hA3;have hf1:=hA3.fail;have HA3:=aa hA3;clear hA3;by_cases hlt2:i < N
   ·have hlt2':(i:Int) < N:=by omega
    (go_wp2_with fail);go_ret
    rw [HE.out];exact ⟨_,L,rfl,HO.out,HA3.out,HK.out,fun h=>absurd h HF.out⟩
   ·have hlt2':¬ (i:Int) < N:=by omega
    (go_wp2_with fail);go_ret
    rw [HE.out];exact ⟨_,L,rfl,HO.out,HA3.out,HK.out,fun h=>absurd h HF.out⟩
 ·have hm':¬ (4096:Int) < N:=by omega
  obtain ⟨s1,hs1⟩:∃ s1:St,s1=s0:=⟨_,rfl⟩;subst hs1;have HE:Hid (res=bP eB N s1):=HV2.out (by omega);clear HV1 HV2;go_upto_region 4 with fail
  (go_wp2_with fail);go_loopw [4,5] (fun lv iv wr=>xP B p w s1 N lv iv wr) (fun _ iv _=>N - (intOf iv).toNat)
  case atStart=>exact ⟨0,[],rfl,Nat.zero_le _,o3.nil _ _,HA1,HK1,fun _=>rfl,Nat.le_refl _⟩
  case round =>
   obtain ⟨i,L,rfl,hi,HO,HA,HK,HE2,HLi⟩:=hrel;by_cases hlt2:i < N
   ·have hlt2':(i:Int) < N:=by omega
    have HNX:=aa (jf eB i s1);have HSY:=aa (fun h hn=>nc (s:=s1) (i:=i) h hn N (by omega));generalize bP eB i s1=R at HA HE2 HNX HSY;obtain ⟨L0,st⟩:=R;simp only at HA HE2 HNX HSY;have hf1:=HA.out.fail;by_cases hst:st.2=0
    ·have HLL:Hid (L=L0):=HE2.out hst;have HS0:=aa hst;rw [hst] at hf1;have HVO:Hid (eB st=(⟨(ag.num st 0).1,(ag.num (ag.num st 0).2 0).1,(aT ag (ag.num (ag.num st 0).2 0).2 cl).1⟩,(aT ag (ag.num (ag.num st 0).2 0).2 cl).2)):=rfl;have cT:=aa (aD B p wr.drew st (HA.out.kept (ab.refl [] wr).drew (by simp) (by simp)));have cT0:=aa (aD B p wr st HA.out);have cG:=aa (fun (W2:World) (h:bn B p W2 (ag.num st 0).2)=>aD B p W2 (ag.num st 0).2 h);have cX:=aa (fun (W2:World) (h:bn B p W2 (ag.num (ag.num st 0).2 0).2)=>kH B p W2 (ag.num (ag.num st 0).2 0).2 h);generalize aT ag (ag.num (ag.num st 0).2 0).2 cl=q3 at HVO cX;generalize ag.num (ag.num st 0).2 0=q2 at HVO cG cX;generalize ag.num st 0=q1 at HVO cG cT cT0;obtain ⟨n1,s2⟩:=q1;obtain ⟨n2,s3⟩:=q2;obtain ⟨rq,s4⟩:=q3;simp only at HVO cT cT0 cG cX;have HN2:Hid (bP eB (i+1) s1=(L0++[⟨n1,n2,rq⟩],s4)):=by show bP eB (i+1) s1=_;rw [HNX.out,HVO.out]
     clear hst HVO HNX HSY HE2;go_upto_region 9 with (first | (go_at_call 42;(first | refine cT0.out.mono ?_ | refine cT.out.mono ?_);clear cT cT0;rintro _ w3 ⟨rfl,hA3,hk3⟩;have HA3:=aa hA3;have HKr3:=aa hk3;clear hA3 hk3) | (go_at_call 42;refine (cG.out _ HA3.out).mono ?_;clear cG;rintro _ w4 ⟨rfl,hA4,hk4⟩;have HA4:=aa hA4;have HKr4:=aa (HKr3.out.trans hk4 (by simp));have HZ:Hid (Bx (w4.alloc (.cells #[.int .i64 0,.int .i64 0,.int .i64 0,.string ⟨#[]⟩,.int .i64 0,.int .i64 0,.int .i64 0,.string ⟨#[]⟩,.slice none 0 0,.string ⟨#[]⟩,.int .i64 0,.int .i64 0,.int .i64 0] 55)) w4.heap.size 55 (cq kX)):=(Bx.new w4 _ (cq kX));have HLz:Hid ((cq (⟨n1,n2,ie⟩:Vm)).length=(cq kX).length):=rfl;have HOz:=aa (fY ⟨n1,n2,ie⟩);have HTz:Hid (aq Tryz.prog 55 (cq (⟨n1,n2,ie⟩:Vm)).length):=eR;clear hA4 hk4) | ((refine ac HZ.out HLz.out HOz.out HTz.out ?_ ?_ ?_);rfl;rfl;intro w6 HB6 HK6))
     have k6:ab [] w4 w6:=(ab.refl [] w4).trans (((ab.refl [w4.heap.size] w4).alloc _).trans HK6.out (by simp)) (by intro i hi;simp at hi;right;omega);have hsz4:w.heap.size≤w4.heap.size:=Nat.le_trans HK.out.size HKr4.out.size;have HKr6:=aa (HKr4.out.trans k6 (by simp));have HA6:=aa (HA4.out.kept k6 (by simp) (by simp));have hb6:w4.heap.size < w6.heap.size:=HB6.out.lt;have cC6:=aa (cX.out w6 HA6.out);obtain ⟨qv,hqv⟩:∃ qv,qv=if s4.2=0 then rq else cl:=⟨_,rfl⟩
     have HQV:Hid (s4.2=0→qv=rq):=fun h=>by rw [hqv,if_pos h]
     unfold aR at cC6;rw [← hqv] at cC6;clear k6 HK6 HZ HLz HOz HTz hf1 cX hqv;have HB6':Hid (Bx w6 w4.heap.size 55 ([.int .i64 n1,.int .i64 n2]++(bp ie++[]))):=HB6;have HTR:Hid (∀ lo ln lc,aq Tryz.prog 29 (bp ⟨qv,lo,ln,lc⟩).length):=fun _ _ _=>ar;have HLR:Hid (∀ lo ln lc,(bp ie).length=(bp ⟨qv,lo,ln,lc⟩).length):=fun _ _ _=>rfl;have HOR:Hid (∀ lo ln lc,∀ v∈bp ⟨qv,lo,ln,lc⟩,v.oneCell'=true):=fun _ _ _=>gR _;go_upto_region 10 with (first | (go_at_call 44;refine cC6.out.mono ?_;clear cC6;rintro _ w7 ⟨v7,rfl,hO7,hA7,hk7⟩;have HA7:=aa hA7;have HK7:=aa hk7;obtain ⟨lo,ln,lc,rfl⟩:=dC hO7;have HO7:=aa hO7;have HB7:=aa (HB6'.out.kept hk7 (by simp;omega));clear hA7 hk7 hO7) | ((refine di (o:=2) HB7.out ?_ (HLR.out lo ln lc) (HOR.out lo ln lc) (HTR.out lo ln lc) ?_ ?_ ?_);rfl;rfl;rfl;intro wq HBq0 HKq0))
     have HBq:Hid (Bx wq w4.heap.size 55 (cq ⟨n1,n2,⟨qv,lo,ln,lc⟩⟩)):=HBq0;have kq:ab [w4.heap.size] w7 wq:=HKq0.out;have HAq:=aa (HA7.out.kept kq (by simp;omega) (by simp;omega));have HKrq:Hid (ab [p] wr wq):=(HKr6.out.trans HK7.out (by simp)).trans kq (by intro i hi;simp at hi;right;rw [hi];exact HKr4.out.size);have HKq:=aa (HK.out.trans HKrq.out (by simp));have hOq:aL w6.heap.size wq (.slice lo ln lc) qv.c:=kq.ownsRow HO7.out (fun i hi hm=>by have:=(World.ownsRow.lt HO7.out i hi).1;simp at hm;omega);have hLq:o3 w.heap.size wq u4 L:=o3.low HO.out HKrq.out (by simp;omega);have hszq:w.heap.size≤wq.heap.size:=HKq.out.size;have hszw:w.heap.size≤w6.heap.size:=by omega
     have hca:ab [] wq (wq.alloc (.cells (cq ⟨n1,n2,⟨qv,lo,ln,lc⟩⟩).toArray 55)):=(ab.refl [] wq).alloc _;have HLa:=aa (hLq.low hca (by simp));have HYa:Hid (aL w.heap.size (wq.alloc (.cells (cq ⟨n1,n2,⟨qv,lo,ln,lc⟩⟩).toArray 55)) (.slice lo ln lc) qv.c):=World.ownsRow.alloc (hOq.mono hszw) _;have HAa:=aa (HAq.out.kept hca (by simp) (by simp));have HKa:=aa (HKq.out.trans hca (by simp));have hLl:L.length≤1000000:=by have:=HLi.out;omega
     have HTq:Hid (aq Tryz.prog 55 (cq ⟨n1,n2,⟨qv,lo,ln,lc⟩⟩).length):=eR;clear kq hOq hLq hca HBq0 HB6' HB7 HTR HLR HOR;go_wp2_with (first | ((with_reducible refine ak HBq.out HTq.out ?_ ?_);rfl) | ((with_reducible refine pF ⟨n1,n2,⟨qv,lo,ln,lc⟩⟩ ?_ ?_);rfl) | (at_builtin;refine tE rfl _ _ rfl w.heap.size _ L rfl HLa.out wq.heap.size ⟨n1,n2,⟨qv,lo,ln,lc⟩⟩ HYa.out rfl (heap_alloc_new _ _) hLl (by simp;omega) ?b1))
     case b1 =>
      intro v8 w8 hO8 hg8;obtain ⟨S8,hk8,hs8⟩:=hg8;have HK8:Hid (ab [p] w w8):=HKa.out.trans hk8 (fun k hk=>.inr (hs8 k hk));have HA8:=aa (HAa.out.kept hk8 (fun h=>by have:=hs8 _ h;omega) (fun k hk=>by have:=hs8 k hk;omega));have HO8:Hid (o3 w.heap.size w8 v8 (L++[⟨n1,n2,qv⟩])):=hO8;have HR8:Hid (bn B p w8 (bP eB (i+1) s1).2):=by show bn B p w8 _;rw [HN2.out];exact HA8.out
      have HE8:Hid ((bP eB (i+1) s1).2.2=0→L++[⟨n1,n2,qv⟩]=(bP eB (i+1) s1).1):=fun h=>by
       rw [HN2.out] at h ⊢;rw [HQV.out h,HLL.out]
      have HL8:Hid ((L++[(⟨n1,n2,qv⟩:Vo)]).length≤i+1):=by have:=HLi.out;show _≤_;simp;omega
      clear hO8 hk8 hs8;(go_wp2_with fail);go_roundw
      case rel=>exact ⟨i+1,_,by go_num,by omega,HO8,HR8,HK8,HE8,HL8⟩
      case measure=>simp [intOf];omega
    ·have hstb:(st.2==0)=false:=by simpa using hst
     have HQ:Hid (res.2=st):=by show res.2=_;rw [HE.out];exact HSY.out hst HA.out.nl
     have HNZ:=aa hst;clear hst;(go_wp2_with fail);go_ret
     exact ⟨_,L,rfl,HO.out,by rw [HQ.out];exact HA.out,HK.out,fun h=>absurd (by rw [← HQ.out];exact h) HNZ.out⟩
   ·have hlt2':¬ (i:Int) < N:=by omega
    have hiN:i=N:=by omega
    have HQ:Hid (res=bP eB i s1):=by show res=_;rw [hiN];exact HE.out
    clear hiN;have hf1:=HA.out.fail;(go_wp2_with fail);go_ret
    rw [HQ.out];exact ⟨_,L,rfl,HO.out,HA.out,HK.out,HE2.out⟩
end Go.Proofs.YtakafmejllilnaaGreat
