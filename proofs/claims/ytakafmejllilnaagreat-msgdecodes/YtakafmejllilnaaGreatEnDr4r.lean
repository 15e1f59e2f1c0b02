/-
  The document's takeCommits.
-/
import Derived.Test.YtakafmejllilnaaGreatEnDr3r
import Derived.Test.YtakafmejllilnaaGreatW0r
import Derived.Test.YtakafmejllilnaaGreatF8r
namespace Go.Proofs.YtakafmejllilnaaGreat
open Go.RowKit
def dg (s:St):bW × St :=
 (⟨(ag.num s 0).1,(ag.num (ag.num s 0).2 0).1,(ag.text (ag.num (ag.num s 0).2 0).2 []).1,(fK dq 64 (ag.text (ag.num (ag.num s 0).2 0).2 []).2).1⟩,(fK dq 64 (ag.text (ag.num (ag.num s 0).2 0).2 []).2).2)
theorem mG (s:St) (hs:Nl s):(la s).2=(dg s).2∧((dg s).2.2=0→(la s).1=(dg s).1):=by
 have h:=lX (bz ag) fd lV 64 (ag.text (ag.num (ag.num s 0).2 0).2 []).2 (d8 dE _ (d8 aG _ (d8 aG _ hs)));refine ⟨h.1,fun h0=>?_⟩;have e:=h.2 h0;unfold la cn pl dg;simp only
 rw [show dp.c=[] from rfl,show dp.r=0 from rfl,show dp.b=0 from rfl,show dp.n=[] from rfl,e];rfl
theorem lA {α:Type}(one two:St→α × St) (hn:∀ s,Nl s→Nl (two s).2) (h:∀ s,Nl s→(one s).2=(two s).2∧((two s).2.2=0→(one s).1=(two s).1)) (s:St) (hs:Nl s):∀ n,(eJ one n s).2=(eJ two n s).2∧((eJ two n s).2.2=0→(eJ one n s).1=(eJ two n s).1)∧Nl (eJ two n s).2
 | 0=>⟨rfl,fun _=>rfl,hs⟩
 | n+1=>by
   obtain ⟨h1,h2,h3⟩:=lA one two hn h s hs n;rw [eJ,eJ,h1];by_cases he:(eJ two n s).2.2=0
   ·rw [if_pos he,if_pos he];have h4:=h _ h3;exact ⟨h4.1,fun h0=>by rw [h2 he,h4.2 h0],hn _ h3⟩
   ·rw [if_neg he,if_neg he];exact ⟨h1,fun h0=>absurd h0 he,h3⟩
theorem tL (s:St) (hs:Nl s):Nl (dg s).2:=by
 rw [← (mG s hs).1];exact d8 lU s hs
theorem t4 (s:St) (hs:Nl s):(aP ag (cn ag) dp s [] 32).2=(fK dg 32 s).2∧((fK dg 32 s).2.2=0→(aP ag (cn ag) dp s [] 32).1=(fK dg 32 s).1):=by
 have h:=lX (cn ag) dp lU 32 s hs
 have e:(fK la 32 s).2=(fK dg 32 s).2∧((fK dg 32 s).2.2=0→(fK la 32 s).1=(fK dg 32 s).1):=by
  unfold fK;split
  ·exact ⟨rfl,fun _=>rfl⟩
  ·have h1:=lA la dg tL mG (ag.num s 0).2 (d8 aG s hs) (ag.num s 0).1.toNat;exact ⟨h1.1,h1.2.1⟩
 have h1:(aP ag (cn ag) dp s [] 32).2=(fK la 32 s).2:=h.1;have h2:(fK la 32 s).2.2=0→(aP ag (cn ag) dp s [] 32).1=(fK la 32 s).1:=h.2;refine ⟨h1.trans e.1,fun h0=>?_⟩;rw [h2 (by rw [e.1];exact h0),e.2 h0]
theorem sj {w:World}{ops:Array Oper}{rest:List Oper}{o:Oper}{a:Act}{Q:Exit→Act→World→Prop}(hgd:o.guard=none) (s x:Operand)
 (hop:o.op=.call { callee:=.builtin .append,args:=#[s,x],argTypes:=#[32,32] })
 (B:Nat) (v:Value) (K:List (bW × Value)) (hs:a.eval s=v) (hO:gB B w v K) (g:Nat) (y:bW × Value) (hx:a.eval x=.slice (some ⟨g,0,none⟩) 1 1) (hc:w.heap[g]?=some (.cells #[.int .i64 y.1.r,.int .i64 y.1.b,.string (ae y.1.n),y.2] 108 (0,0)))
 (h1:y.2.oneCell'=true) (hlen:K.length≤1000000000) (hB:B≤w.heap.size)
 (h:∀ v' w',gB B w' v' (K++[y])→w.grownBy w' v.ownBlock→wpList Tryz.prog ops Q rest (a.put o.dst v') w'):wpList Tryz.prog ops Q (o :: rest) a w:=by
 obtain ⟨i0,hi,hz0,hz1,hz2⟩:=info_parts jR;refine wpList_append_own w hgd s x 32 hop B 108 i0 (.agg #[.int .i64 0,.int .i64 0,.string ⟨#[]⟩,.slice none 0 0]) 4 56 Tryz.underlying32 hi hz0 hz1 hz2 rfl (by decide) v K.length (K.flatMap dk) hs hO ⟨g,0,none⟩ 1 1 (dk y) hx rfl (World.news_of_block hc) ?_ (by unfold maxLen;omega) (by omega) hB ?_
 ·intro u hu;simp [dk] at hu;rcases hu with rfl | rfl | rfl | rfl <;> first | rfl | exact h1
 ·intro v' w' h2 h3 _;refine h v' w' ?_ h3;unfold gB;rw [List.length_append,List.flatMap_append];simpa using h2
def xZ (B p:Nat) (w:World) (q:List bW × St) (r:Ending) (w':World):Prop:=∃ v,r=.returned v∧bJ w.heap.size w' v q.1∧bn B p w' q.2∧ab [p] w w'
def xO (B p:Nat) (w:World) (s1:St) (N:Nat) (lv iv:Value) (wr:World):Prop :=
 ∃ (i:Nat) (L:List bW) (st:St),iv=.int .i64 (i:Int)∧i≤N∧Hid (bJ w.heap.size wr lv L)∧Hid (bn B p wr st)∧Hid (ab [p] w wr)∧Hid (eJ dg i s1=(L,st))
theorem uG {B p:Nat}{w w':World}{v:Value}{L:List bW}(h:bJ B w v L) (k:ab [p] w w') (hp:p < B):bJ B w' v L:=h.off k (by simpa using hp)
theorem j7 {w w':World}{B e size n:Nat}{v:Value}{xs:List Value}(h:w.ownsRow B e size v n xs) (hg:w.grownBy w' v.ownBlock) {B2 e2 size2 n2:Nat}{v2:Value}{xs2:List Value}(h2:w.ownsRow B2 e2 size2 v2 n2 xs2) (hne:e2≠e):w'.ownsRow B2 e2 size2 v2 n2 xs2 :=
 gK ((ab.refl v.ownBlock.toList w).grown hg fun k hk=>.inl (gV.2 hk)) (Ts:=[e]) (fun k hk cur t mk hh=>by
  obtain ⟨c2,h3⟩:=ll h (gV.1 hk);rw [h3] at hh;cases hh;simp) h2 (by simpa using hne)
theorem tm {b0:Nat}{w w':World}{v v':Value}{K:List (bW × Value)}{y:bW × Value}(hR:gB b0 w v K) (hO:uB b0 w K) (hy:aL b0 w y.2 y.1.c) (hg:w.grownBy w' v.ownBlock) (hR':gB b0 w' v' (K++[y])):bJ b0 w' v' (K.map Prod.fst++[y.1]):=by
 refine ⟨K++[y],hR',fun x hx=>?_,by simp⟩;rcases List.mem_append.1 hx with hx | hx
 ·exact j7 hR hg (hO x hx) (by decide)
 ·simp at hx;subst hx
  exact j7 hR hg hy (by decide)
theorem oH {B p b0:Nat}{w w':World}{v:Value}{K:List (bW × Value)}{st:St}(hA:bn B p w st) (hO:gB b0 w v K) (hg:w.grownBy w' v.ownBlock) (hp:p < b0) (hB:B≤p):bn B p w' st:=by
 have k:ab v.ownBlock.toList w w':=(ab.refl _ w).grown hg (fun k hk=>.inl (by rw [hk];simp));refine hA.kept k (fun hm=>?_) (fun i hi=>?_)
 ·have:=(World.ownsRow.lt hO p (by simpa using hm)).1;omega
 ·have:=(World.ownsRow.lt hO i (by simpa using hi)).1;omega
set_option maxHeartbeats 8000000 in
set_option maxRecDepth 100000 in
theorem rl (B p:Nat) (w:World) (s:St) (hA:bn B p w s):Calls Tryz.prog 84 #[.pointer (some ⟨p,0,none⟩)] w (xZ B p w (fK dg 32 s)):=by
 have hlt:=hA.lt;have hnn:0≤(ag.num s 0).1:=dl hA.oct;have cN:=aa (aD B p w s hA);have HT:Hid (fK dg 32 s=if 32 < (ag.num s 0).1 then ([],([],aO (ag.num s 0).2.2)) else eJ dg (ag.num s 0).1.toNat (ag.num s 0).2):=rfl;generalize fK dg 32 s=res at HT ⊢;have hbig:(ag.num s 0).1≤1099511627776:=ji hA.oct;generalize ag.num s 0=q at *;obtain ⟨nz,s0⟩:=q;obtain ⟨N,rfl⟩:∃ N:Nat,nz=(N:Int):=⟨nz.toNat,by simp only at hnn;omega⟩;simp only at cN HT hbig;clear hnn hA;go_enter Tryz.func84,Tryz.ntmps84;go_upto_region 2 with (go_at_call 42;refine cN.out.mono ?_;clear cN;rintro _ w1 ⟨rfl,hA1,hk1⟩;have HA1:=aa hA1;have HK1:=aa hk1;clear hA1 hk1)
 by_cases hm:32 < N
 ·have hm':(32:Int) < N:=by omega
  have HE:Hid (res=([],([],aO s0.2))):=by show res=_;rw [HT.out,if_pos hm']
  have cR:=aa (eT B p w1 s0 HA1.out);obtain ⟨s1,hs1⟩:∃ s1:St,s1=([],aO s0.2):=⟨_,rfl⟩;rw [← hs1] at cR HE;have HF:Hid (s1.2≠0):=by rw [hs1];exact fD _
  have HIT:Hid (res=eJ dg N s1):=by show res=_;rw [HE.out,dG dg s1 0 HF.out N (Nat.zero_le _)];rfl
  have HLE:Hid (N≤32∨s1.2≠0):=.inr HF.out;clear hs1 HT HE;go_upto_region 4 with (go_at_call 43;refine cR.out.mono ?_;clear cR;rintro _ w2 ⟨rfl,hA2,hk2⟩;have HA2:=aa hA2;have HK2:=aa (HK1.out.trans hk2 (by simp));clear hA2 hk2)
  (go_wp2_with fail);go_loopw [4,5] (fun lv iv wr=>xO B p w s1 N lv iv wr) (fun _ iv _=>N - (intOf iv).toNat)
  case atStart=>exact ⟨0,[],s1,rfl,Nat.zero_le _,bJ.nil _ _,HA2,HK2,rfl⟩
  case round =>
   obtain ⟨i,L,st,rfl,hi,HO,HA,HK,HI⟩:=hrel;have hf1:=HA.out.fail;have hlen:L.length≤i:=by have h:=iT dg s1 i;rw [HI.out] at h;exact h
   by_cases hlt2:i < N
   ·have hlt2':(i:Int) < N:=by omega
    by_cases hst:st.2=0
    ·have h64:N≤32:=by
      rcases HLE.out with h | h
      ·exact h
      ·exfalso
       have h2:=dG dg s1 0 h i (Nat.zero_le _);rw [HI.out] at h2;have h3:st=s1:=congrArg Prod.snd h2;rw [h3] at hst;exact h hst
     omega
    ·have hstb:(st.2==0)=false:=by simpa using hst
     have HQ:Hid (res=(L,st)):=by show res=_;rw [HIT.out,dG dg s1 i (by rw [HI.out];exact hst) N (by omega),HI.out]
     (go_wp2_with fail);go_ret
     rw [HQ.out];exact ⟨_,rfl,HO.out,HA.out,HK.out⟩
   ·have hlt2':¬ (i:Int) < N:=by omega
    have hiN:i=N:=by omega
    have HQ:Hid (res=(L,st)):=by show res=_;rw [HIT.out,← hiN,HI.out]
    clear hiN;(go_wp2_with fail);go_ret
    rw [HQ.out];exact ⟨_,rfl,HO.out,HA.out,HK.out⟩
 ·have hm':¬ (32:Int) < N:=by omega
  obtain ⟨s1,hs1⟩:∃ s1:St,s1=s0:=⟨_,rfl⟩;subst hs1;have HIT:Hid (res=eJ dg N s1):=by show res=_;rw [HT.out,if_neg hm'];rfl
  have HLE:Hid (N≤32∨s1.2≠0):=.inl (by omega);clear HT;go_upto_region 4 with fail
  (go_wp2_with fail);go_loopw [4,5] (fun lv iv wr=>xO B p w s1 N lv iv wr) (fun _ iv _=>N - (intOf iv).toNat)
  case atStart=>exact ⟨0,[],s1,rfl,Nat.zero_le _,bJ.nil _ _,HA1,HK1,rfl⟩
  case round =>
   obtain ⟨i,L,st,rfl,hi,HO,HA,HK,HI⟩:=hrel;have hf1:=HA.out.fail;have hlen:L.length≤i:=by have h:=iT dg s1 i;rw [HI.out] at h;exact h
   by_cases hlt2:i < N
   ·have hlt2':(i:Int) < N:=by omega
    by_cases hst:st.2=0
    ·have h64:N≤32:=by
      rcases HLE.out with h | h
      ·exact h
      ·exfalso
       have h2:=dG dg s1 0 h i (Nat.zero_le _);rw [HI.out] at h2;have h3:st=s1:=congrArg Prod.snd h2;rw [h3] at hst;exact h hst
     have HNX:Hid (eJ dg (i+1) s1=(L++[(dg st).1],(dg st).2)):=by show eJ dg (i+1) s1=_;rw [eJ,HI.out,if_pos hst]
     rw [hst] at hf1;have HCH:Hid (dg st=(⟨(ag.num st 0).1,(ag.num (ag.num st 0).2 0).1,(ag.text (ag.num (ag.num st 0).2 0).2 []).1,(fK dq 64 (ag.text (ag.num (ag.num st 0).2 0).2 []).2).1⟩,(fK dq 64 (ag.text (ag.num (ag.num st 0).2 0).2 []).2).2)):=rfl;have cT:=aa (aD B p wr st HA.out);have cG:=aa (fun (W2:World) (h:bn B p W2 (ag.num st 0).2)=>aD B p W2 (ag.num st 0).2 h);have cX:=aa (fun (W2:World) (h:bn B p W2 (ag.num (ag.num st 0).2 0).2)=>fi B p W2 (ag.num (ag.num st 0).2 0).2 h);have cC:=aa (fun (W2:World) (h:bn B p W2 (ag.text (ag.num (ag.num st 0).2 0).2 []).2)=>nO B p W2 (ag.text (ag.num (ag.num st 0).2 0).2 []).2 h);generalize (fK dq 64 (ag.text (ag.num (ag.num st 0).2 0).2 []).2)=q4 at HCH cC;generalize (ag.text (ag.num (ag.num st 0).2 0).2 [])=q3 at HCH cC cX;generalize (ag.num (ag.num st 0).2 0)=q2 at HCH cG cX;generalize (ag.num st 0)=q1 at HCH cG cT;obtain ⟨ra,s2⟩:=q1;obtain ⟨ba,s3⟩:=q2;obtain ⟨tt,s4⟩:=q3;obtain ⟨LC,s5⟩:=q4;simp only at HCH cT cG cX cC;have HN2:Hid (eJ dg (i+1) s1=(L++[⟨ra,ba,tt,LC⟩],s5)):=by show eJ dg (i+1) s1=_;rw [HNX.out,HCH.out]
     clear hst HCH HNX;go_upto_region 9 with (first | (go_at_call 42;refine cT.out.mono ?_;clear cT;rintro _ w3 ⟨rfl,hA3,hk3⟩;have HA3:=aa hA3;have HKr3:=aa hk3;clear hA3 hk3) | (go_at_call 42;refine (cG.out _ HA3.out).mono ?_;clear cG;rintro _ w4 ⟨rfl,hA4,hk4⟩;have HA4:=aa hA4;have HKr4:=aa (HKr3.out.trans hk4 (by simp));clear hA4 hk4) | (go_at_call 80;refine (cX.out _ HA4.out).mono ?_;clear cX;rintro _ w5 ⟨rfl,hA5,hk5⟩;have HA5:=aa hA5;have HKr5:=aa (HKr4.out.trans hk5 (by simp));have HZ:Hid (Bx (w5.alloc (.cells #[.int .i64 0,.int .i64 0,.string ⟨#[]⟩,.slice none 0 0] 108)) w5.heap.size 108 qJ):=(Bx.new w5 _ qJ);have HLz:Hid (([.int .i64 ra,.int .i64 ba,.string (ae tt),.slice none 0 0]:List Value).length=qJ.length):=rfl;have HOz:Hid (∀ z∈([.int .i64 ra,.int .i64 ba,.string (ae tt),.slice none 0 0]:List Value),z.oneCell'=true):=(by intro z hz;simp at hz;rcases hz with rfl | rfl | rfl | rfl <;> rfl);have HTz:Hid (aq Tryz.prog 108 ([.int .i64 ra,.int .i64 ba,.string (ae tt),.slice none 0 0]:List Value).length):=eZ;clear hA5 hk5) | ((with_reducible refine ac HZ.out HLz.out HOz.out HTz.out ?_ ?_ ?_);rfl;rfl;intro w6 HB6 HK6))
     have k6:ab [] w5 w6:=(ab.refl [] w5).trans (((ab.refl [w5.heap.size] w5).alloc _).trans HK6.out (by simp)) (by intro i hi;simp at hi;right;omega);have hsz5:w.heap.size≤w5.heap.size:=Nat.le_trans HK.out.size HKr5.out.size;have HKr6:=aa (HKr5.out.trans k6 (by simp));have HA6:=aa (HA5.out.kept k6 (by simp) (by simp));have hb6:w5.heap.size < w6.heap.size:=HB6.out.lt;have cC6:=aa (cC.out w6 HA6.out);clear k6 HK6 HZ HLz HOz HTz hf1 cC
     have f3:Hid (∀ W2,ab [p] w6 W2→W2.cell? ⟨w5.heap.size,3,none⟩=some (.slice none 0 0)∧W2.frozen? ⟨w5.heap.size,3,none⟩=false):=fun W2 k=>by
      have h:=HB6.out.kept k (by simp;omega);exact ⟨h.cell 3 rfl,h.froz 3⟩
     go_upto_region 10 with (go_at_call 81;refine cC6.out.mono ?_;clear cC6;rintro _ w7 ⟨v7,rfl,hO7,hA7,hk7⟩;have HA7:=aa hA7;have HK7:=aa hk7;obtain ⟨lo,ln,lc,rfl⟩:=dC hO7;have HO7:=aa hO7;obtain ⟨s3c,s3f⟩:=f3.out _ hk7;clear hA7 hk7 hO7 f3)
     obtain ⟨wq,hwq⟩:∃ wq,wq=w7.setCell ⟨w5.heap.size,3,none⟩ (.slice lo ln lc):=⟨_,rfl⟩;rw [← hwq];have HBq:Hid (Bx wq w5.heap.size 108 [.int .i64 ra,.int .i64 ba,.string (ae tt),.slice lo ln lc]):=by rw [hwq];exact (HB6.out.kept HK7.out (by simp;omega)).set 3 _
     have kq:ab [w5.heap.size] w7 wq:=by rw [hwq];exact aj w7 w5.heap.size 3 _
     have HAq:=aa (HA7.out.kept kq (by simp;omega) (by simp;omega));have HKrq:Hid (ab [p] wr wq):=(HKr6.out.trans HK7.out (by simp)).trans kq (by intro i hi;simp at hi;right;rw [hi];exact HKr5.out.size);have HKq:=aa (HK.out.trans HKrq.out (by simp));have hOq:aL w6.heap.size wq (.slice lo ln lc) LC:=kq.ownsRow HO7.out (fun i hi hm=>by have:=(World.ownsRow.lt HO7.out i hi).1;simp at hm;omega);obtain ⟨K,hRK,hOK,hLK⟩:=uG HO.out HKrq.out hlt.1;have q0:wq.cell? ⟨w5.heap.size,0,none⟩=some (.int .i64 ra):=HBq.out.cell 0 rfl;have q1:wq.cell? ⟨w5.heap.size,1,none⟩=some (.int .i64 ba):=HBq.out.cell 1 rfl;have q2:wq.cell? ⟨w5.heap.size,2,none⟩=some (.string (ae tt)):=HBq.out.cell 2 rfl;have q3:wq.cell? ⟨w5.heap.size,3,none⟩=some (.slice lo ln lc):=HBq.out.cell 3 rfl;have hszq:w.heap.size≤wq.heap.size:=HKq.out.size;have hszw:w.heap.size≤w6.heap.size:=by omega
     have hRa:gB w.heap.size (wq.alloc (.cells #[.int .i64 ra,.int .i64 ba,.string (ae tt),.slice lo ln lc] 108)) u4 K:=World.ownsRow.alloc hRK _;have HOa:Hid (uB w.heap.size (wq.alloc (.cells #[.int .i64 ra,.int .i64 ba,.string (ae tt),.slice lo ln lc] 108)) K):=fun x hx=>World.ownsRow.alloc (hOK x hx) _;have HYa:Hid (aL w.heap.size (wq.alloc (.cells #[.int .i64 ra,.int .i64 ba,.string (ae tt),.slice lo ln lc] 108)) (.slice lo ln lc) LC):=World.ownsRow.alloc (hOq.mono hszw) _;have HAa:=aa (HAq.out.kept ((ab.refl [] wq).alloc (.cells #[.int .i64 ra,.int .i64 ba,.string (ae tt),.slice lo ln lc] 108)) (by simp) (by simp));have HKa:=aa (HKq.out.alloc (.cells #[.int .i64 ra,.int .i64 ba,.string (ae tt),.slice lo ln lc] 108));have hKl:K.length≤1000000000:=by have h:=congrArg List.length hLK;simp at h;omega
     have HLK:=aa hLK;clear hwq kq s3c s3f hOq hRK hOK hLK;go_wp2_with (at_builtin;refine sj rfl _ _ rfl w.heap.size _ K rfl hRa wq.heap.size (⟨ra,ba,tt,LC⟩,.slice lo ln lc) rfl (heap_alloc_new _ _) rfl hKl (by simp;omega) ?b1)
     case b1 =>
      intro v8 w8 hO8 hg8;have HK8:Hid (ab [p] w w8):=HKa.out.grown hg8 (fun k hk=>.inr (World.ownsRow.lt hRa k hk).1);have HA8:=aa (oH HAa.out hRa hg8 hlt.1 hlt.2)
      have HO8:Hid (bJ w.heap.size w8 v8 (L++[⟨ra,ba,tt,LC⟩])):=by
       have h:=tm (y:=(⟨ra,ba,tt,LC⟩,.slice lo ln lc)) hRa HOa.out HYa.out hg8 hO8;rw [HLK.out] at h;exact h
      clear hO8 hg8 hRa q0 q1 q2 q3;(go_wp2_with fail);go_roundw
      case rel=>exact ⟨i+1,_,_,by go_num,by omega,HO8,HA8,HK8,HN2⟩
      case measure=>simp [intOf];omega
    ·have hstb:(st.2==0)=false:=by simpa using hst
     have HQ:Hid (res=(L,st)):=by show res=_;rw [HIT.out,dG dg s1 i (by rw [HI.out];exact hst) N (by omega),HI.out]
     (go_wp2_with fail);go_ret
     rw [HQ.out];exact ⟨_,rfl,HO.out,HA.out,HK.out⟩
   ·have hlt2':¬ (i:Int) < N:=by omega
    have hiN:i=N:=by omega
    have HQ:Hid (res=(L,st)):=by show res=_;rw [HIT.out,← hiN,HI.out]
    clear hiN;(go_wp2_with fail);go_ret
    rw [HQ.out];exact ⟨_,rfl,HO.out,HA.out,HK.out⟩
end Go.Proofs.YtakafmejllilnaaGreat
