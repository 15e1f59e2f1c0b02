/-
  The document's takeChanges.
-/
import Derived.Test.YtakafmejllilnaaGreatW7r
namespace Go.Proofs.YtakafmejllilnaaGreat
open Go.RowKit
def oC (t:List UInt8) (g:Bool) (d:Int):List Value:=[.string (ae t),.bool g,.int .u64 d]
theorem sO (t:List UInt8) (g:Bool) (d:Int):∀ z∈oC t g d,z.oneCell'=true:=by
 intro z hz;simp [oC] at hz
 rcases hz with rfl | rfl | rfl <;> rfl
theorem ji {e:Int}{l:List Int}(ho:bi l):(an e l).2.1≤1099511627776:=by
 unfold an;split
 ·rcases en 6 0 0 l with ⟨h1,k,h⟩ | ⟨_,h⟩
  ·have h3:bm l=(0,(bm l).2.1,(bm l).2.2):=by rw [← h1];rfl
   exact (fw _ _ _ ho h3).2.1
  ·show (fq 6 0 0 l).2.1≤_;rw [h];decide
 ·show (0:Int)≤1099511627776;omega
theorem lG {B p b0:Nat}{w w':World}{v:Value}{L:List Ch}{st:St}(hA:bn B p w st) (hO:aL b0 w v L) (hg:w.grownBy w' v.ownBlock) (hp:p < b0) (hB:B≤p):bn B p w' st:=by
 have k:ab v.ownBlock.toList w w':=(ab.refl _ w).grown hg (fun k hk=>.inl (by rw [hk];simp));refine hA.kept k (fun hm=>?_) (fun i hi=>?_)
 ·have:=(World.ownsRow.lt hO p (by simpa using hm)).1;omega
 ·have:=(World.ownsRow.lt hO i (by simpa using hi)).1;omega
set_option maxHeartbeats 8000000 in
set_option maxRecDepth 100000 in
theorem nO (B p:Nat) (w:World) (s:St) (hA:bn B p w s):Calls Tryz.prog 81 #[.pointer (some ⟨p,0,none⟩)] w (xR B p w (fK dq 64 s)):=by
 have hlt:=hA.lt;have hnn:0≤(ag.num s 0).1:=dl hA.oct;have cN:=aa (aD B p w s hA);have HNl:=aa (d8 aG s hA.nl);have HT:Hid (fK dq 64 s=if 64 < (ag.num s 0).1 then ([],([],aO (ag.num s 0).2.2)) else eJ dq (ag.num s 0).1.toNat (ag.num s 0).2):=rfl;generalize fK dq 64 s=res at HT ⊢;have hbig:(ag.num s 0).1≤1099511627776:=ji hA.oct;generalize ag.num s 0=q at *;obtain ⟨nz,s0⟩:=q;obtain ⟨N,rfl⟩:∃ N:Nat,nz=(N:Int):=⟨nz.toNat,by simp only at hnn;omega⟩;simp only at cN HNl HT hbig;clear hnn hA;go_enter Tryz.func81,Tryz.ntmps81;go_upto_region 2 with (go_at_call 42;refine cN.out.mono ?_;clear cN;rintro _ w1 ⟨rfl,hA1,hk1⟩;have HA1:=aa hA1;have HK1:=aa hk1;clear hA1 hk1)
 by_cases hm:64 < N
 ·have hm':(64:Int) < N:=by omega
  have HE:Hid (res=([],([],aO s0.2))):=by show res=_;rw [HT.out,if_pos hm']
  have cR:=aa (eT B p w1 s0 HA1.out);obtain ⟨s1,hs1⟩:∃ s1:St,s1=([],aO s0.2):=⟨_,rfl⟩;rw [← hs1] at cR HE;have HF:Hid (s1.2≠0):=by rw [hs1];exact fD _
  have HIT:Hid (res=eJ dq N s1):=by show res=_;rw [HE.out,dG dq s1 0 HF.out N (Nat.zero_le _)];rfl
  have HLE:Hid (N≤64∨s1.2≠0):=.inr HF.out;clear hs1 HT HE;go_upto_region 4 with (go_at_call 43;refine cR.out.mono ?_;clear cR;rintro _ w2 ⟨rfl,hA2,hk2⟩;have HA2:=aa hA2;have HK2:=aa (HK1.out.trans hk2 (by simp));clear hA2 hk2)
  (go_wp2_with fail);go_loopw [4,5] (fun lv iv wr=>xL B p w s1 N lv iv wr) (fun _ iv _=>N - (intOf iv).toNat)
  case atStart=>exact ⟨0,[],s1,rfl,Nat.zero_le _,aL.nil _ _,HA2,HK2,rfl⟩
  case round =>
   obtain ⟨i,L,st,rfl,hi,HO,HA,HK,HI⟩:=hrel;have hf1:=HA.out.fail;have hlen:L.length≤i:=by have h:=iT dq s1 i;rw [HI.out] at h;exact h
   by_cases hlt2:i < N
   ·have hlt2':(i:Int) < N:=by omega
    by_cases hst:st.2=0
    ·have h64:N≤64:=by
      rcases HLE.out with h | h
      ·exact h
      ·exfalso
       have h2:=dG dq s1 0 h i (Nat.zero_le _);rw [HI.out] at h2;have h3:st=s1:=congrArg Prod.snd h2;rw [h3] at hst;exact h hst
     omega
    ·have hstb:(st.2==0)=false:=by simpa using hst
     have HQ:Hid (res=(L,st)):=by show res=_;rw [HIT.out,dG dq s1 i (by rw [HI.out];exact hst) N (by omega),HI.out]
     (go_wp2_with fail);go_ret
     rw [HQ.out];exact ⟨_,rfl,HO.out,HA.out,HK.out⟩
   ·have hlt2':¬ (i:Int) < N:=by omega
    have hiN:i=N:=by omega
    have HQ:Hid (res=(L,st)):=by show res=_;rw [HIT.out,← hiN,HI.out]
    clear hiN;(go_wp2_with fail);go_ret
    rw [HQ.out];exact ⟨_,rfl,HO.out,HA.out,HK.out⟩
 ·have hm':¬ (64:Int) < N:=by omega
  obtain ⟨s1,hs1⟩:∃ s1:St,s1=s0:=⟨_,rfl⟩;subst hs1;have HIT:Hid (res=eJ dq N s1):=by show res=_;rw [HT.out,if_neg hm'];rfl
  have HLE:Hid (N≤64∨s1.2≠0):=.inl (by omega);clear HT;go_upto_region 4 with fail
  (go_wp2_with fail);go_loopw [4,5] (fun lv iv wr=>xL B p w s1 N lv iv wr) (fun _ iv _=>N - (intOf iv).toNat)
  case atStart=>exact ⟨0,[],s1,rfl,Nat.zero_le _,aL.nil _ _,HA1,HK1,rfl⟩
  case round =>
   obtain ⟨i,L,st,rfl,hi,HO,HA,HK,HI⟩:=hrel;have hf1:=HA.out.fail;have hlen:L.length≤i:=by have h:=iT dq s1 i;rw [HI.out] at h;exact h
   by_cases hlt2:i < N
   ·have hlt2':(i:Int) < N:=by omega
    by_cases hst:st.2=0
    ·have h64:N≤64:=by
      rcases HLE.out with h | h
      ·exact h
      ·exfalso
       have h2:=dG dq s1 0 h i (Nat.zero_le _);rw [HI.out] at h2;have h3:st=s1:=congrArg Prod.snd h2;rw [h3] at hst;exact h hst
     have HNX:Hid (eJ dq (i+1) s1=(L++[(dq st).1],(dq st).2)):=by show eJ dq (i+1) s1=_;rw [eJ,HI.out,if_pos hst]
     rw [hst] at hf1;have hf1':((0:Int)==0)=true:=rfl;have HCH:Hid (dq st=if (ag.flag (ag.text st []).2 false).1=true then (⟨(ag.text st []).1,true,0⟩,(ag.flag (ag.text st []).2 false).2) else (⟨(ag.text st []).1,false,(ag.word (ag.flag (ag.text st []).2 false).2 0).1⟩,(ag.word (ag.flag (ag.text st []).2 false).2 0).2)):=rfl;have cT:=aa (fi B p wr st HA.out);have cG:=aa (fun (W2:World) (h:bn B p W2 (ag.text st []).2)=>td B p W2 (ag.text st []).2 h);have cW:=aa (fun (W2:World) (h:bn B p W2 (ag.flag (ag.text st []).2 false).2)=>pu B p W2 (ag.flag (ag.text st []).2 false).2 h);generalize (ag.word (ag.flag (ag.text st []).2 false).2 0)=q3 at HCH cW;generalize (ag.flag (ag.text st []).2 false)=q2 at HCH cW cG;generalize (ag.text st [])=q1 at HCH cG cT;obtain ⟨tt,s2⟩:=q1;obtain ⟨gg,s3⟩:=q2;obtain ⟨dd,s4⟩:=q3;simp only at HCH cT cG cW;clear hst;go_upto_region 9 with (first | (go_at_call 80;refine cT.out.mono ?_;clear cT;rintro _ w3 ⟨rfl,hA3,hk3⟩;have HA3:=aa hA3;have HKr3:=aa hk3;clear hA3 hk3) | (go_at_call 101;refine (cG.out _ HA3.out).mono ?_;clear cG;rintro _ w4 ⟨rfl,hA4,hk4⟩;have HA4:=aa hA4;have HKr4:=aa (HKr3.out.trans hk4 (by simp));have HZ:Hid (Bx (w4.alloc (.cells #[.string ⟨#[]⟩,.bool false,.int .u64 0] 134)) w4.heap.size 134 oP):=(Bx.new w4 _ oP);have HLz:Hid ((oC tt gg 0).length=oP.length):=rfl;have HOz:=aa (sO tt gg 0);have HTz:Hid (aq Tryz.prog 134 (oC tt gg 0).length):=gl;clear hA4 hk4) | ((with_reducible refine ac HZ.out HLz.out HOz.out HTz.out ?_ ?_ ?_);rfl;rfl;intro w5 HB5 HK5))
     have k5:ab [] w4 w5:=(ab.refl [] w4).trans (((ab.refl [w4.heap.size] w4).alloc _).trans HK5.out (by simp)) (by intro i hi;simp at hi;right;omega);have hsz4:w.heap.size≤w4.heap.size:=Nat.le_trans HK.out.size HKr4.out.size;have HKr5:=aa (HKr4.out.trans k5 (by simp));have HA5:=aa (HA4.out.kept k5 (by simp) (by simp));have q1:w5.cell? ⟨w4.heap.size,1,none⟩=some (.bool gg):=HB5.out.cell 1 rfl;clear k5 HK5 HZ HLz HOz HTz hf1;cases gg
     ·have HN2:Hid (eJ dq (i+1) s1=(L++[⟨tt,false,dd⟩],s4)):=by show eJ dq (i+1) s1=_;rw [HNX.out,HCH.out];rfl
      have cW5:=aa (cW.out w5 HA5.out);clear HCH HNX cW;go_upto_region 10 with fail
      have f2:Hid (∀ W2,ab [p] w5 W2→W2.cell? ⟨w4.heap.size,2,none⟩=some (.int .u64 0)∧W2.frozen? ⟨w4.heap.size,2,none⟩=false):=fun W2 k=>by
       have h:=HB5.out.kept k (by simp;omega);exact ⟨h.cell 2 rfl,h.froz 2⟩
      go_upto_region 11 with (go_at_call 83;refine cW5.out.mono ?_;clear cW5;rintro _ w6 ⟨rfl,hA6,hk6⟩;have HA6a:=aa hA6;have HKr6a:=aa (HKr5.out.trans hk6 (by simp));have HB6a:=aa (HB5.out.kept hk6 (by simp;omega));obtain ⟨s2c,s2f⟩:=f2.out _ hk6;clear hA6 hk6 f2)
      obtain ⟨wq,hwq⟩:∃ wq,wq=w6.setCell ⟨w4.heap.size,2,none⟩ (.int .u64 dd):=⟨_,rfl⟩;rw [← hwq];have HB6:Hid (Bx wq w4.heap.size 134 (oC tt false dd)):=by rw [hwq];exact HB6a.out.set 2 _
      have kq:ab [w4.heap.size] w6 wq:=by rw [hwq];exact aj w6 w4.heap.size 2 _
      have HA6:=aa (HA6a.out.kept kq (by simp;omega) (by simp;omega));have HKr6:Hid (ab [p] wr wq):=HKr6a.out.trans kq (by intro i hi;simp at hi;right;rw [hi];exact HKr4.out.size);have HK6:=aa (HK.out.trans HKr6.out (by simp));clear hwq kq s2c s2f q1;have hO6:aL w.heap.size wq u4 L:=ph HO.out HKr6.out hlt.1;have hsz:w.heap.size≤wq.heap.size:=HK6.out.size;have HBB:=(dz.lit wq [⟨tt,false,dd⟩] (n:=1) rfl (by simp [maxLen]) (vs:=#[.string (ae tt),.bool false,.int .u64 dd]) rfl).runs';have hOa:aL w.heap.size (wq.alloc (.cells #[.string (ae tt),.bool false,.int .u64 dd] 134)) u4 L:=World.ownsRow.alloc hO6 _;have HAa:=aa (HA6.out.kept ((ab.refl [] wq).alloc (.cells #[.string (ae tt),.bool false,.int .u64 dd] 134)) (by simp) (by simp));have HKa:=aa (HK6.out.alloc (.cells #[.string (ae tt),.bool false,.int .u64 dd] 134));unfold oC at HB6;have q0:wq.cell? ⟨w4.heap.size,0,none⟩=some (.string (ae tt)):=HB6.out.cell 0 rfl;have q1:wq.cell? ⟨w4.heap.size,1,none⟩=some (.bool false):=HB6.out.cell 1 rfl;have q2:wq.cell? ⟨w4.heap.size,2,none⟩=some (.int .u64 dd):=HB6.out.cell 2 rfl;go_wp2_with (at_builtin;refine pt rfl _ _ rfl w.heap.size _ L rfl hOa ⟨wq.heap.size,0,none⟩ 1 1 [⟨tt,false,dd⟩] rfl rfl HBB (by simp;omega) (by simp;omega) ?b1)
      case b1 =>
       intro v7 w7 hO7 hg7;have HK7:Hid (ab [p] w w7):=HKa.out.grown hg7 (fun k hk=>.inr (World.ownsRow.lt hOa k hk).1);have HA7:=aa (lG HAa.out hOa hg7 hlt.1 hlt.2);have HO7:=aa hO7;clear hO7 hg7 hOa hO6 HBB q0 q1 q2;(go_wp2_with fail);go_roundw
       case rel=>exact ⟨i+1,_,_,by go_num,by omega,HO7,HA7,HK7,HN2⟩
       case measure=>simp [intOf];omega
     ·have HN2:Hid (eJ dq (i+1) s1=(L++[⟨tt,true,0⟩],s3)):=by show eJ dq (i+1) s1=_;rw [HNX.out,HCH.out];rfl
      have HA6:=aa HA5.out;have HB6:=aa HB5.out;have HKr6:=aa HKr5.out;have HK6:=aa (HK.out.trans HKr6.out (by simp));clear HCH HNX cW;go_upto_region 11 with fail
      have hO6:aL w.heap.size w5 u4 L:=ph HO.out HKr6.out hlt.1;have hsz:w.heap.size≤w5.heap.size:=HK6.out.size;have HBB:=(dz.lit w5 [⟨tt,true,0⟩] (n:=1) rfl (by simp [maxLen]) (vs:=#[.string (ae tt),.bool true,.int .u64 0]) rfl).runs';have hOa:aL w.heap.size (w5.alloc (.cells #[.string (ae tt),.bool true,.int .u64 0] 134)) u4 L:=World.ownsRow.alloc hO6 _;have HAa:=aa (HA6.out.kept ((ab.refl [] w5).alloc (.cells #[.string (ae tt),.bool true,.int .u64 0] 134)) (by simp) (by simp));have HKa:=aa (HK6.out.alloc (.cells #[.string (ae tt),.bool true,.int .u64 0] 134));unfold oC at HB6;have q0:w5.cell? ⟨w4.heap.size,0,none⟩=some (.string (ae tt)):=HB6.out.cell 0 rfl;have q1:w5.cell? ⟨w4.heap.size,1,none⟩=some (.bool true):=HB6.out.cell 1 rfl;have q2:w5.cell? ⟨w4.heap.size,2,none⟩=some (.int .u64 0):=HB6.out.cell 2 rfl;go_wp2_with (at_builtin;refine pt rfl _ _ rfl w.heap.size _ L rfl hOa ⟨w5.heap.size,0,none⟩ 1 1 [⟨tt,true,0⟩] rfl rfl HBB (by simp;omega) (by simp;omega) ?b1)
      case b1 =>
       intro v7 w7 hO7 hg7;have HK7:Hid (ab [p] w w7):=HKa.out.grown hg7 (fun k hk=>.inr (World.ownsRow.lt hOa k hk).1);have HA7:=aa (lG HAa.out hOa hg7 hlt.1 hlt.2);have HO7:=aa hO7;clear hO7 hg7 hOa hO6 HBB q0 q1 q2;(go_wp2_with fail);go_roundw
       case rel=>exact ⟨i+1,_,_,by go_num,by omega,HO7,HA7,HK7,HN2⟩
       case measure=>simp [intOf];omega
    ·have hstb:(st.2==0)=false:=by simpa using hst
     have HQ:Hid (res=(L,st)):=by show res=_;rw [HIT.out,dG dq s1 i (by rw [HI.out];exact hst) N (by omega),HI.out]
     (go_wp2_with fail);go_ret
     rw [HQ.out];exact ⟨_,rfl,HO.out,HA.out,HK.out⟩
   ·have hlt2':¬ (i:Int) < N:=by omega
    have hiN:i=N:=by omega
    have HQ:Hid (res=(L,st)):=by show res=_;rw [HIT.out,← hiN,HI.out]
    clear hiN;(go_wp2_with fail);go_ret
    rw [HQ.out];exact ⟨_,rfl,HO.out,HA.out,HK.out⟩
end Go.Proofs.YtakafmejllilnaaGreat
