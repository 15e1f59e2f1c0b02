/-
  Texts laid as one.
-/
import Derived.Test.YtakafmejllilnaaGreatW0r
import Derived.Test.YtakafmejllilnaaGreatF3r
import Derived.Test.YtakafmejllilnaaGreatF1r
import Derived.ProofKit
import Derived.OpenShut
import Derived.ShutString
import Derived.ChangeOld
import Derived.SizedLaws
import Derived.Test.YtakafmejllilnaaGreatF4r
set_option maxHeartbeats 2000000
/-
 What is read of the arguments.
-/
namespace Go.Proofs.YtakafmejllilnaaGreat
open Go.ChangeShapes Go.WideShapes Go.ChangeAt Go.RowKit
theorem wy {x:Int}(h:(Lit.int .u8 x).wf=true):0≤x∧x < 256:=by
 simp [Lit.wf,IntKind.min,IntKind.max,IntKind.bits,IntKind.signed] at h
 omega
theorem kj (b o i:Nat):(⟨b,o,none⟩:Addr).add i=⟨b,o+i,none⟩:=by
 by_cases h:i=0 <;> simp [Addr.add,h]
theorem oo {H:Type}{enc:TypeId × Value→H}{W:World}{base:Nat}{sp:Nat→Bool}{held:Bool}{fuel:Nat}{a:Option Addr}{len cap:Nat}{x:DataW H × List MemPlace}
 (h:DataW.trod enc Tryz.prog W base sp held fuel 23 [.slice a len cap]=some x):∃ l,Sl W a len cap l∧bi l∧(x.1=.nil∨∃ spare,x.1=.slice (lits .u8 l) spare):=by
 rcases open_ints Tryz.underlying23 Tryz.underlying5 (by kernel_rfl) h with ⟨hcs,hx⟩ | ⟨ad,l,c,zs,hcs,_,hl,hm,hz,hx,hcell,hwz⟩
 ·simp at hcs
  obtain ⟨rfl,rfl,rfl⟩:=hcs;exact ⟨[],Sl.nil _,by intro x hx;simp at hx,.inl (by rw [hx])⟩
 ·simp at hcs
  obtain ⟨rfl,rfl,rfl⟩:=hcs;have hlen:len≤zs.length:=by rw [hz];split <;> omega
  refine ⟨zs.take len,⟨by simp;omega,hl,hm,by simp,fun i hi=>?_⟩,fun y hy=>wy (hwz y (List.mem_of_mem_take hy)),.inr ⟨_,by rw [hx]⟩⟩;have hc:=hcell i (by omega);obtain ⟨b,o,spot⟩:=ad
  have hspot:spot=none:=by
   have:=World.cell?_spot hc
   by_cases h0:i=0
   ·subst h0;simpa [Addr.add] using this
   ·have h1:=hcell 0 (by omega);have:=World.cell?_spot h1
    simpa [Addr.add] using this
  subst hspot;refine ⟨b,o,rfl,?_⟩;rw [← kj,hc];simp [List.getD,hi]
end Go.Proofs.YtakafmejllilnaaGreat
namespace Go.Proofs.YtakafmejllilnaaGreat
open Go.RowKit
def gq (w:World) (p:Nat) (v:Value) (e:Int):Prop:=w.heap[p]?=some (.cells #[v,.int .i64 e] 81 (0,0))
theorem gq.cells {w:World}{p:Nat}{v:Value}{e:Int}(h:gq w p v e) :
 w.cell? ⟨p,0,none⟩=some v∧w.cell? ⟨p,1,none⟩=some (.int .i64 e)∧(∀ o,w.frozen? ⟨p,o,none⟩=false):=by
 unfold gq at h;refine ⟨?_,?_,fun o=>?_⟩ <;> simp [World.cell?,World.frozen?,h]
theorem gq.set0 {w:World}{p:Nat}{v:Value}{e:Int}(h:gq w p v e) (u:Value):gq (w.setCell ⟨p,0,none⟩ u) p u e:=by
 have:=es h 0 u
 simpa [gq] using this
theorem gq.set1 {w:World}{p:Nat}{v:Value}{e:Int}(h:gq w p v e) (x:Int):gq (w.setCell ⟨p,1,none⟩ (.int .i64 x)) p v x:=by
 have:=es h 1 (.int .i64 x)
 simpa [gq] using this
def RR (w:World) (B p:Nat) (l:List Int) (e:Int):Prop :=
 ∃ ao c,gq w p (.slice ao l.length c) e∧Sl w ao l.length c l∧(0 < l.length→∀ k∈bO ao,k < B)∧B≤p∧bi l∧(e≠0→l=[])
theorem RR.kept {S:List Nat}{a w:World}(h:ab S a w) {B p:Nat}{l:List Int}{e:Int}(hr:RR a B p l e) (hp:p ∉ S) (hS:∀ k∈S,B≤k):RR w B p l e:=by
 obtain ⟨ao,c,h1,h2,h3,h4,h5,h6⟩:=hr;refine ⟨ao,c,h.at h1 hp,Sl.kept' h h2 (fun h0 k hk hm=>?_),h3,h4,h5,h6⟩;have:=h3 h0 k hk
 have:=hS k hm
 omega
theorem RR.lt {w:World}{B p:Nat}{l:List Int}{e:Int}(hr:RR w B p l e):p < w.heap.size:=by
 obtain ⟨ao,c,h1,_⟩:=hr;exact bZ h1
def iP (e x:Int):Int:=if e=0 then x else e
theorem cv (w:World) (B p:Nat) (l:List Int) (e x:Int) (hr:RR w B p l e) :
 Calls Tryz.prog 79 #[.pointer (some ⟨p,0,none⟩),.int .i64 x] w fun r w'=>r=.returned (.tuple #[])∧RR w' B p [] (iP e x)∧ab [p] w w':=by
 obtain ⟨ao,c,h1,h2,h3,h4,h5,h6⟩:=hr;obtain ⟨c0,c1,c3⟩:=h1.cells;by_cases he:e=0
 ·subst he;have HF:Hid (RR ((w.setCell ⟨p,1,none⟩ (.int .i64 x)).setCell ⟨p,0,none⟩ (.slice none 0 0)) B p [] x):=⟨none,0,(h1.set1 x).set0 _,Sl.nil _,by simp,h4,bq,fun _=>rfl⟩;clear h1 h2;go_enter Tryz.func79,Tryz.ntmps79;go_wp2
  go_returns
  exact ⟨rfl,HF.out,((ab.refl _ _).setCell (by simp) _).setCell (by simp) _⟩
 ·have hl:=h6 he;subst hl;have hb:(e==0)=false:=by simp [he]
  have HF:Hid (RR w B p [] (iP e x)):=by show RR w B p [] (iP e x);unfold iP;rw [if_neg he];exact ⟨ao,c,h1,h2,h3,h4,h5,fun _=>rfl⟩
  clear h1 h2 he h6;go_enter Tryz.func79,Tryz.ntmps79;go_wp2
  go_returns
  exact ⟨rfl,HF.out,ab.refl _ _⟩
theorem ox (w:World) (B p:Nat) (l:List Int) (e:Int) (hr:RR w B p l e) :
 Calls Tryz.prog 48 #[.pointer (some ⟨p,0,none⟩)] w fun r w'=>r=.returned (.int .i64 (if e=0 then (if l.length=0 then 0 else 3) else e))∧w=w':=by
 obtain ⟨ao,c,h1,h2,h3,h4,h5,h6⟩:=hr;obtain ⟨c0,c1,c3⟩:=h1.cells;clear h1 h2;by_cases he:e=0
 ·subst he;by_cases hn:l.length=0
  ·rw [hn] at c0 ⊢;go_enter Tryz.func48,Tryz.ntmps48;go_wp2
   go_ret
   exact ⟨rfl,rfl⟩
  ·have hp:(0:Int) < (l.length:Int):=by omega
   go_enter Tryz.func48,Tryz.ntmps48;go_wp2
   go_ret
   exact ⟨by first | rfl | simp,rfl⟩
 ·have hb:(e==0)=false:=by simp [he]
  go_enter Tryz.func48,Tryz.ntmps48;go_wp2
  go_ret
  exact ⟨by first | rfl | simp,rfl⟩
set_option maxRecDepth 100000 in
theorem iu (w:World) (B p:Nat) (l:List Int) (e:Int) (hr:RR w B p l e) :
 Calls Tryz.prog 42 #[.pointer (some ⟨p,0,none⟩)] w fun r w'=>r=.returned (.int .i64 (an e l).2.1)∧RR w' B p (an e l).2.2 (an e l).1∧ab [p] w w':=by
 have HR:Hid (RR w B p l e):=hr;by_cases he:e=0
 ·subst he;have hE:an 0 l=bm l:=by unfold an;rw [if_pos rfl]
  rw [hE];clear hE;obtain ⟨ao,c,h1,h2,h3,h4,h5,h6⟩:=hr;obtain ⟨c0,c1,c3⟩:=h1.cells;have HA:Hid (gq w p (.slice ao l.length c) 0):=h1;have HS:Hid (Sl w ao l.length c l):=h2;have hm:=h2.2.2.1;have hc:=h2.2.1;unfold maxLen at hm;clear h1 h2;go_enter Tryz.func42,Tryz.ntmps42;go_wp2
  go_loop [3,4] (fun t i=>∃ (k:Nat) (acc:Int),k≤6∧i=.int .i64 k∧t=.int .i64 acc∧0≤acc∧Hid (acc < 2 ^ (7*k))∧Hid (bm l=fq (6 - k) k acc (l.drop k))∧k≤l.length) (fun _ i=>6 - (intOf i).toNat)
  case atStart=>exact ⟨0,0,by omega,rfl,rfl,by omega,by show (0:Int) < 2 ^ (7*0);decide,rfl,Nat.zero_le _⟩
  case round =>
   obtain ⟨k,acc,hk,rfl,rfl,ha0,HA1,HRD,hkl⟩:=hrel;by_cases hk6:k=6
   ·subst hk6;have HH:Hid (bm l=(4,0,[])):=HRD;clear HRD;(go_wp2_with fail);refine (cv _ B _ l 0 _ HR.out).mono ?_;rintro _ w1 ⟨rfl,hR1,hk1⟩;go_wp2
    go_ret
    rw [HH.out];exact ⟨rfl,hR1,hk1⟩
   ·have hk6':(k:Int) < 6:=by omega
    by_cases hlt:k < l.length
    ·have hlt':¬ (l.length:Int)≤(k:Int):=by omega
     obtain ⟨b,o,rfl,hcell⟩:=HS.out.some (by omega);have g1:w.cell? ⟨b,o+k,none⟩=some (.int .u8 (l.getD k 0)):=hcell k hlt;have gd:=gu h5 hlt
     have hdrop:l.drop k=l.getD k 0 :: l.drop (k+1):=by
      rw [List.drop_eq_getElem_cons hlt];simp [List.getD,List.getElem?_eq_getElem hlt]
     have HDR:Hid (l.drop k=l.getD k 0 :: l.drop (k+1)):=hdrop;clear hcell hdrop;generalize hd:l.getD k 0=d at g1 gd HDR;clear hd;obtain ⟨gd0,gd1⟩:=gd;obtain ⟨f,hf⟩:∃ f,6 - k=f+1:=⟨5 - k,by omega⟩;have HF:Hid (6 - k=f+1):=hf;have hbits:=nU acc d k ha0 HA1.out gd0 gd1 (by omega);have hlt2:=iM acc d k ha0 HA1.out;obtain ⟨X,hX⟩:∃ X,X=acc+d % 128*2 ^ (7*k):=⟨_,rfl⟩;rw [← hX] at hbits hlt2;have HX:Hid (X=acc+d % 128*2 ^ (7*k)):=hX;have HLT:Hid (0≤X∧X < 2 ^ (7*(k+1))):=hlt2;have hX0:=hlt2.1;clear hX hlt2 hf;by_cases hd128:128≤d
     ·go_wp2
      go_round
      case rel =>
       refine ⟨k+1,X,by omega,by go_num,rfl,hX0,HLT.out.2,?_,by omega⟩;show bm l=fq (6 - (k+1)) (k+1) X (l.drop (k+1));rw [HRD.out,HF.out,HDR.out,mD _ _ _ _ _ hd128,← HX.out,show 6 - (k+1)=f by have:=HF.out;omega]
      case measure=>simp [intOf];omega
     ·have hd128':d < 128:=by omega
      by_cases hbad:(d=0∧0 < k)∨1099511627776 < X
      ·have HH:Hid (bm l=(4,0,[])):=by
        show bm l=(4,0,[]);rw [HRD.out,HF.out,HDR.out,ml _ _ _ _ _ hd128' (by rw [← HX.out];exact hbad)]
       by_cases hz:d=0∧0 < k
       ·have hzb:(d==0)=true:=by simp [hz.1]
        have hkb:(0:Int) < (k:Int):=by omega
        clear hz hbad HRD;(go_wp2_with fail);refine (cv _ B _ l 0 _ HR.out).mono ?_;rintro _ w1 ⟨rfl,hR1,hk1⟩;go_wp2
        go_ret
        rw [HH.out];exact ⟨rfl,hR1,hk1⟩
       ·have hXm:(1099511627776:Int) < X:=by
         rcases hbad with h | h
         ·exact absurd h hz
         ·exact h
        by_cases hz0:d=0
        ·have hzb:(d==0)=true:=by simp [hz0]
         have hkb:¬ (0:Int) < (k:Int):=by intro h;exact hz ⟨hz0,by omega⟩
         clear hz hbad HRD hz0;(go_wp2_with fail);refine (cv _ B _ l 0 _ HR.out).mono ?_;rintro _ w1 ⟨rfl,hR1,hk1⟩;go_wp2
         go_ret
         rw [HH.out];exact ⟨rfl,hR1,hk1⟩
        ·have hzb:(d==0)=false:=by simp [hz0]
         clear hz hbad HRD hz0;(go_wp2_with fail);refine (cv _ B _ l 0 _ HR.out).mono ?_;rintro _ w1 ⟨rfl,hR1,hk1⟩;go_wp2
         go_ret
         rw [HH.out];exact ⟨rfl,hR1,hk1⟩
      ·have HH:Hid (bm l=(0,X,l.drop (k+1))):=by
        show bm l=(0,X,l.drop (k+1));rw [HRD.out,HF.out,HDR.out,kw _ _ _ _ _ hd128' (by rw [← HX.out];exact hbad),← HX.out]
       have hXm:¬ (1099511627776:Int) < X:=fun h=>hbad (.inr h);have hlen:(l.drop (k+1)).length=l.length - (k+1):=by simp
       have HLEN:Hid ((l.drop (k+1)).length=l.length - (k+1)):=hlen
       have HFIN:Hid (∀ a' c',Sl w a' (l.length - (k+1)) c' (l.drop (k+1))→(∀ j∈bO a',j∈bO (some (⟨b,o,none⟩:Addr)))→RR (w.setCell ⟨p,0,none⟩ (.slice a' (l.length - (k+1)) c')) B p (l.drop (k+1)) 0∧ab [p] w (w.setCell ⟨p,0,none⟩ (.slice a' (l.length - (k+1)) c'))):=by
        intro a' c' hs' hb';have hKp:ab [p] w (w.setCell ⟨p,0,none⟩ (.slice a' (l.length - (k+1)) c')):=(ab.refl _ _).setCell (by simp) _;have hblk:∀ j∈bO a',j < B:=fun j hj=>h3 (by omega) j (hb' j hj);refine ⟨⟨a',c',?_,?_,fun _=>hblk,h4,h5.drop _,by simp⟩,hKp⟩
        ·rw [hlen];exact HA.out.set0 _
        ·rw [hlen];exact Sl.kept' hKp hs' (fun _ j hj hm'=>by have:=hblk j hj;simp at hm';omega)
       clear hlen HRD
       rcases (show (d=0∧k=0)∨¬ d=0 by
        by_cases h:d=0
        ·left;refine ⟨h,?_⟩
         by_cases hk0:k=0
         ·exact hk0
         ·exact absurd (.inl ⟨h,by omega⟩) hbad
        ·exact .inr h) with ⟨hz0,hk0⟩ | hz0
       ·have hX00:X=0:=by
         have h7:=HX.out;have h8:acc < 1:=by have h9:=HA1.out;rw [hk0] at h9;exact h9
         rw [hz0] at h7;omega
        have h8:acc=0:=by have h9:=HA1.out;rw [hk0] at h9;have h10:acc < 1:=h9;omega
        subst hk0 hz0 hX00 h8;have HH2:Hid (bm l=(0,0,l.drop 1)):=HH;have g2:w.cell? ⟨b,o,none⟩=some (.int .u8 0):=g1;have hne:¬ l=[]:=by intro h;rw [h] at hlt;simp at hlt
        have hbz:bits .or .i64 0 (wrap64 (wrap64 (bits .and .u8 0 127)))=0:=by kernel_rfl
        clear hbad HF HX HLT hbits HA1 HDR g1 HH;go_wp2
        ·have hfin:=HFIN.out (some ⟨b,o,none⟩) 0 (by have:=HS.out.drop_all (k:=0+1) (by omega);exact this) (fun j hj=>hj);go_ret
         rw [HH2.out];exact ⟨rfl,hfin.1,hfin.2⟩
        ·have hfin:=HFIN.out (some ⟨b,o+(0+1),none⟩) (c - (0+1)) (by have:=HS.out.drop (k:=0+1) (by omega);rw [Option.map_some,kj] at this;exact this) (fun j hj=>by simpa [bO] using hj);go_ret
         rw [HH2.out];exact ⟨rfl,hfin.1,hfin.2⟩
       ·have hzb:(d==0)=false:=by simp [hz0]
        clear hbad hz0;go_wp2
        ·have ec:c=k+1:=by assumption
         have hfin:=HFIN.out (some ⟨b,o,none⟩) 0 (by have:=HS.out.drop_all (k:=k+1) (by omega);exact this) (fun j hj=>hj);go_ret
         rw [HH.out];exact ⟨rfl,hfin.1,hfin.2⟩
        ·have hfin:=HFIN.out (some ⟨b,o+(k+1),none⟩) (c - (k+1)) (by have:=HS.out.drop (k:=k+1) (by omega);rw [Option.map_some,kj] at this;exact this) (fun j hj=>by simpa [bO] using hj);go_ret
         rw [HH.out];exact ⟨rfl,hfin.1,hfin.2⟩
    ·have hlt':(l.length:Int)≤(k:Int):=by omega
     have HH:Hid (bm l=(2,0,[])):=by
      show bm l=(2,0,[]);obtain ⟨f,hf⟩:∃ f,6 - k=f+1:=⟨5 - k,by omega⟩;rw [HRD.out,hf,List.drop_eq_nil_of_le (by omega)];rfl
     clear HRD;(go_wp2_with fail);refine (cv _ B _ l 0 _ HR.out).mono ?_;rintro _ w1 ⟨rfl,hR1,hk1⟩;go_wp2
     go_ret
     rw [HH.out];exact ⟨rfl,hR1,hk1⟩
 ·have hE:an e l=(e,0,[]):=by unfold an;rw [if_neg he]
  rw [hE];have HST:Hid (iP e 4=e):=by show iP e 4=e;unfold iP;rw [if_neg he]
  obtain ⟨ao,c,h1,h2,h3,h4,h5,h6⟩:=hr;obtain ⟨c0,c1,c3⟩:=h1.cells;have hb:(e==0)=false:=by simp [he]
  clear h1 h2 h6 he hE;go_enter Tryz.func42,Tryz.ntmps42;go_wp2
  refine wp_loop_rounds 1 ?_;rw [rounds_succ];(go_wp2_with fail);refine (cv _ B _ l e _ HR.out).mono ?_;rw [HST.out];rintro _ w1 ⟨rfl,hR1,hk1⟩;go_wp2
  go_ret
  exact ⟨rfl,hR1,hk1⟩
theorem sV (n:Nat):∀ k,(Value.slice none 0 0).ownBlock=some k→n≤k:=by
 intro k hk;cases hk
theorem gZ (w:World) (ao:Option Addr) (n c:Nat) (l:List Int) (hs:Sl w ao n c l) (hbig:n≤100000000000) :
 Calls Tryz.prog 12 #[.slice ao n c] w fun r w'=>∃ v,r=.returned v∧fk w' v l∧(∀ k,v.ownBlock=some k→w.heap.size≤k)∧ab [] w w':=by
 obtain ⟨i0,hi,hz0,hz1,hz2⟩:=info_parts eL;have hn:=hs.1;subst hn;have hm:=hs.2.2.1;have hc:=hs.2.1;unfold maxLen at hm;by_cases h0:l.length=0
 ·have e1:l=[]:=by simpa using h0
  subst e1;clear hs;go_enter Tryz.func12,Tryz.ntmps12;go_wp2
  refine wp_loop_rounds 1 ?_;rw [rounds_succ];go_wp2
  go_ret
  exact ⟨_,rfl,World.ownsRow_nil _ _ _ _,sV _,ab.refl _ _⟩
 ·obtain ⟨b,o,rfl,hcell⟩:=hs.some (by omega);have HC:Hid (∀ i,i < l.length→w.cell? ⟨b,o+i,none⟩=some (.int .u8 (l.getD i 0))):=hcell;clear hs hcell;go_enter Tryz.func12,Tryz.ntmps12;go_wp2
  go_loopw [3,4] (fun v i wr=>∃ (k:Nat),k≤l.length∧i=.int .i64 k∧fk wr v (l.take k)∧(∀ k,v.ownBlock=some k→w.heap.size≤k)∧ab [] w wr) (fun _ i _=>l.length - (intOf i).toNat)
  case atStart=>exact ⟨0,Nat.zero_le _,rfl,World.ownsRow_nil _ _ _ _,sV _,ab.refl _ _⟩
  case round =>
   obtain ⟨k,hk,rfl,hO,hfr,hkept⟩:=hrel;have hlen:(l.take k).length=k:=by simp;omega
   obtain ⟨L,hL⟩:∃ L,L=l.take k:=⟨_,rfl⟩;rw [← hL] at hO hlen;have HO1:Hid (fk wr u3 L):=hO;have HL:Hid (L=l.take k):=hL;have hlen2:L.length≤100000000000:=by omega
   have HFR:Hid (∀ k,u3.ownBlock=some k→w.heap.size≤k):=hfr;clear hO hL hlen hfr;by_cases hlt:k < l.length
   ·have g1:wr.cell? ⟨b,o+k,none⟩=some (.int .u8 (l.getD k 0)):=hkept.cell (HC.out k hlt) (by simp);generalize hd:l.getD k 0=d at g1;have HD:Hid (l.getD k 0=d):=hd;clear hd;go_wp2_with (at_builtin;refine de _ rfl _ _ 23 rfl 5 i0 (.int .u8 0) 1 1 Tryz.underlying23 hi hz0 hz1 hz2 rfl (by decide) _ L.length (L.map (Value.int .u8)) rfl (World.ownsRow.alloc HO1.out _) ⟨wr.heap.size,0,none⟩ 1 1 [.int .u8 d] rfl rfl ?c1 ?c2 ?c3 ?c4 ?_)
    case c1 =>
     intro j u hj;match j,hj with
     | 0,hj=>simp at hj;subst hj;simp [Addr.add]
    case c2=>intro u hu;simp at hu;subst hu;rfl
    case c3=>unfold maxLen;omega
    case c4=>omega
    intro v' w1 hown hgrow hfr';have hO2:fk w1 v' (L++[d]):=iH hown rfl rfl;clear hown;go_wp2
    go_roundw
    case rel =>
     refine ⟨k+1,by omega,by go_num,?_,?_,?_⟩
     ·rw [fz hlt,HD.out,← HL.out];exact hO2
     ·intro j hj;rcases hfr' j hj with h1 | h1
      ·exact HFR.out j h1
      ·have:=hkept.size;omega
     ·exact (hkept.alloc _).grown hgrow (fun j hj=>.inr (HFR.out j hj))
    case measure=>simp [intOf];omega
   ·have e:l.take k=l:=List.take_of_length_le (by omega);have HO2:Hid (fk wr u3 l):=by have:=HO1.out;rw [HL.out,e] at this;exact this
    clear e;go_wp2
    go_ret
    exact ⟨_,rfl,HO2.out,HFR.out,hkept⟩
theorem RR.cells {w:World}{B p:Nat}{l:List Int}{e:Int}(hr:RR w B p l e) :
 ∃ ao c,w.cell? ⟨p,0,none⟩=some (.slice ao l.length c)∧w.cell? ⟨p,1,none⟩=some (.int .i64 e)∧(∀ o,w.frozen? ⟨p,o,none⟩=false)∧l.length≤c∧c≤9223372036854775807∧Hid (Sl w ao l.length c l)∧Hid (gq w p (.slice ao l.length c) e)∧Hid (0 < l.length→∀ k∈bO ao,k < B):=by
 obtain ⟨ao,c,h1,h2,h3,h4,h5,h6⟩:=hr;obtain ⟨c0,c1,c3⟩:=h1.cells;refine ⟨ao,c,c0,c1,c3,h2.2.1,?_,h2,h1,h3⟩;have:=h2.2.2.1
 unfold maxLen at this;omega
theorem RR.cut {w:World}{B p:Nat}{l:List Int}{ao:Option Addr}{c:Nat}(hr:RR w B p l 0) (h2:Sl w ao l.length c l) (h1:gq w p (.slice ao l.length c) 0) (h3:0 < l.length→∀ k∈bO ao,k < B) {k:Nat}(hk:k≤l.length)
 (a':Option Addr) (m c':Nat) (hm:m=l.length - k) (hv:(a'=ao∧c'=0∧c=k)∨(a'=Option.map (fun x=>x.add k) ao∧c'=c - k)) :
 RR (w.setCell ⟨p,0,none⟩ (.slice a' m c')) B p (l.drop k) 0∧ab [p] w (w.setCell ⟨p,0,none⟩ (.slice a' m c')):=by
 obtain ⟨_,_,_,_,_,h4,h5,h6⟩:=hr;have hKp:ab [p] w (w.setCell ⟨p,0,none⟩ (.slice a' m c')):=(ab.refl _ _).setCell (by simp) _;have hlen:(l.drop k).length=m:=by simp [hm]
 have hbl:bO a'=bO ao:=by
  rcases hv with ⟨rfl,_⟩ | ⟨rfl,_⟩
  ·rfl
  ·rw [l9]
 have hblk:0 < (l.drop k).length→∀ j∈bO a',j < B:=fun h0 j hj=>h3 (by omega) j (by rw [← hbl];exact hj)
 have hs':Sl w a' (l.drop k).length c' (l.drop k):=by
  rw [hlen,hm];rcases hv with ⟨rfl,rfl,rfl⟩ | ⟨rfl,rfl⟩
  ·have h7:=h2.2.1;exact h2.drop_all (by omega)
  ·exact h2.drop hk
 refine ⟨⟨a',c',?_,Sl.kept' hKp hs' (fun h0 j hj hm'=>by have:=hblk h0 j hj;simp at hm';omega),hblk,h4,h5.drop _,by simp⟩,hKp⟩;rw [hlen];exact h1.set0 _
theorem eo {most e e1 x:Int}{l rest:List Int}(h:an e l=(e1,x,rest)) :
 av e most l=if e1≠0 then (e1,[],[]) else if most < x then (3,[],[]) else if (rest.length:Int) < x then (2,[],[]) else (0,rest.take x.toNat,rest.drop x.toNat):=by
 unfold av;unfold an at h;by_cases he:e=0
 ·rw [if_pos he] at h ⊢;exact jq h
 ·rw [if_neg he] at h ⊢;cases h
  rw [if_pos he]
theorem dL (x:Int):iP 0 x=x:=by unfold iP;rw [if_pos rfl]
theorem mJ {e x:Int}{l rest:List Int}(ho:bi l) (h:an e l=(0,x,rest)):0≤x∧x≤1099511627776:=by
 unfold an at h;by_cases he:e=0
 ·rw [if_pos he] at h;have:=fw x l rest ho h
  exact ⟨this.1,this.2.1⟩
 ·rw [if_neg he] at h;cases h;exact absurd rfl he
theorem fM {e:Int}{l:List Int}:(an e l).2.2.length≤l.length:=by
 unfold an;split
 ·rcases en 6 0 0 l with ⟨_,k,h⟩ | ⟨_,h⟩
  ·unfold bm;rw [h];simp
  ·unfold bm;rw [h];simp
 ·simp
theorem nu (w:World) (B p:Nat) (l:List Int) (e most:Int) (hr:RR w B p l e) (hl:l.length≤1000000000) :
 Calls Tryz.prog 82 #[.pointer (some ⟨p,0,none⟩),.int .i64 most] w fun r w'=>∃ a n c,r=.returned (.slice a n c)∧Sl w' a n c (av e most l).2.1∧RR w' B p (av e most l).2.2 (av e most l).1∧ab [p] w w':=by
 have HR:Hid (RR w B p l e):=hr;have hoct:bi l:=by obtain ⟨_,_,_,_,_,_,h5,_⟩:=hr;exact h5
 clear hr;go_enter Tryz.func82,Tryz.ntmps82;go_wp2_with fail
 refine (iu _ B _ l e HR.out).mono ?_;rintro _ w1 ⟨rfl,hR1,hk1⟩;obtain ⟨⟨e1,x,rest⟩,hE⟩:∃ E,an e l=E:=⟨_,rfl⟩;have hsh0:rest.length≤l.length:=by have h9:=fM (e:=e) (l:=l);rw [hE] at h9;exact h9
 rw [hE] at hR1 ⊢;have hrun:=eo (most:=most) hE;have hx:e1=0→0≤x∧x≤1099511627776:=by intro h;subst h;exact mJ hoct hE
 have HR1:Hid (RR w1 B p rest e1):=hR1;obtain ⟨ao,c,c0,c1,c3,hc,hc2,HS,HA,H3⟩:=HR1.out.cells;clear hE hR1;by_cases he1:e1=0
 ·subst he1;obtain ⟨hx0,hx1⟩:=hx rfl;by_cases hbig:most < x
  ·have HE:Hid (av e most l=(3,[],[])):=by show av e most l=_;rw [hrun,if_neg (by simp),if_pos hbig]
   clear hrun;(go_wp2_with fail);refine (cv _ B _ rest 0 _ HR1.out).mono ?_;rw [dL];rintro _ w2 ⟨rfl,hR2,hk2⟩;obtain ⟨ao2,cc2,d0,d1,d3,_⟩:=hR2.cells;have HR2:Hid (RR w2 B p [] 3):=hR2;clear hR2;go_wp2
   go_ret
   rw [HE.out];exact ⟨none,0,0,rfl,Sl.nil _,HR2.out,hk1.trans hk2 (by simp)⟩
  ·by_cases hsh:(rest.length:Int) < x
   ·have HE:Hid (av e most l=(2,[],[])):=by show av e most l=_;rw [hrun,if_neg (by simp),if_neg hbig,if_pos hsh]
    clear hrun;(go_wp2_with fail);refine (cv _ B _ rest 0 _ HR1.out).mono ?_;rw [dL];rintro _ w2 ⟨rfl,hR2,hk2⟩;obtain ⟨ao2,cc2,d0,d1,d3,_⟩:=hR2.cells;have HR2:Hid (RR w2 B p [] 2):=hR2;clear hR2;go_wp2
    go_ret
    rw [HE.out];exact ⟨none,0,0,rfl,Sl.nil _,HR2.out,hk1.trans hk2 (by simp)⟩
   ·have HE:Hid (av e most l=(0,rest.take x.toNat,rest.drop x.toNat)):=by show av e most l=_;rw [hrun,if_neg (by simp),if_neg hbig,if_neg hsh]
    clear hrun hx;obtain ⟨k,rfl⟩:=Int.eq_ofNat_of_zero_le hx0;have hkr:k≤rest.length:=by omega
    have hsl:Sl w1 ao k c (rest.take k):=HS.out.take hkr;(go_wp2_with fail);refine (gZ _ _ _ _ _ hsl (by omega)).mono ?_;rintro _ w2 ⟨v2,rfl,hO2,hf2,hk2⟩;obtain ⟨a2,n2,c2,rfl,hs2,hb2⟩:=ef hO2;have hlt:p < w1.heap.size:=HR1.out.lt;have HR2:Hid (RR w2 B p rest 0):=RR.kept hk2 HR1.out (by simp) (by simp);have HA2:Hid (gq w2 p (.slice ao rest.length c) 0):=hk2.at HA.out (by simp);have HS2:Hid (Sl w2 ao rest.length c rest):=Sl.kept hk2 HS.out (by simp);obtain ⟨d0,d1,d3⟩:=HA2.out.cells;have hfr:∀ k∈bO a2,w1.heap.size≤k:=fun k hk=>hf2 k (hb2 k hk).2
    have HFIN:Hid (∀ a' m c',m=rest.length - k→((a'=ao∧c'=0∧c=k)∨(a'=Option.map (fun x=>x.add k) ao∧c'=c - k)) →
     ∃ a n cc,(Ending.returned (.slice a2 n2 c2):Ending)=.returned (.slice a n cc)∧Sl (w2.setCell ⟨p,0,none⟩ (.slice a' m c')) a n cc (rest.take k)∧RR (w2.setCell ⟨p,0,none⟩ (.slice a' m c')) B p (rest.drop k) 0∧ab [p] w (w2.setCell ⟨p,0,none⟩ (.slice a' m c'))):=by
     intro a' m c' hm hv;have h7:=RR.cut HR2.out HS2.out HA2.out H3.out hkr a' m c' hm hv;refine ⟨a2,n2,c2,rfl,Sl.kept h7.2 hs2 (fun j hj hm'=>?_),h7.1,(hk1.trans hk2 (by simp)).trans h7.2 (by simp)⟩;have:=hfr j hj
     simp at hm';omega
    clear hO2 hs2 hf2 hb2 hfr hsl c0 c1 c3;go_wp2
    ·go_ret
     rw [HE.out];exact HFIN.out _ _ _ (by omega) (.inl ⟨rfl,rfl,by omega⟩)
    ·go_ret
     rw [HE.out];exact HFIN.out _ _ _ (by omega) (.inr ⟨rfl,rfl⟩)
 ·have HE:Hid (av e most l=(e1,[],[])):=by show av e most l=_;rw [hrun,if_pos he1]
  have hb:(e1==0)=false:=by simp [he1]
  have hl2:rest=[]:=by obtain ⟨_,_,_,_,_,_,_,h6⟩:=HR1.out;exact h6 he1
  subst hl2;clear hrun hx;go_wp2
  go_ret
  rw [HE.out];exact ⟨none,0,0,rfl,Sl.nil _,HR1.out,hk1⟩
theorem nX (w:World) (B p:Nat) (l:List Int) (e most:Int) (hr:RR w B p l e) (hl:l.length≤1000000000) :
 Calls Tryz.prog 80 #[.pointer (some ⟨p,0,none⟩),.int .i64 most] w fun r w'=>r=.returned (.string (jt (av e most l).2.1))∧RR w' B p (av e most l).2.2 (av e most l).1∧ab [p] w w':=by
 have HR:Hid (RR w B p l e):=hr;clear hr;go_enter Tryz.func80,Tryz.ntmps80;go_wp2_with fail
 refine (nu _ B _ l e most HR.out hl).mono ?_;rintro _ w1 ⟨a,n,c,rfl,h1,h2,h3⟩;have hcv:=lR w1 a n c _ h1;have H2:Hid (RR w1 B p (av e most l).2.2 (av e most l).1):=h2;clear h1 h2;go_wp2
 go_ret
 exact ⟨rfl,H2.out,h3⟩
theorem k9 (w:World) (B p:Nat) (l:List Int) (e:Int) (hr:RR w B p l e) :
 Calls Tryz.prog 43 #[.pointer (some ⟨p,0,none⟩)] w fun r w'=>r=.returned (.tuple #[])∧RR w' B p [] (aO e)∧ab [p] w w':=by
 have HR:Hid (RR w B p l e):=hr;clear hr;go_enter Tryz.func43,Tryz.ntmps43;go_wp2_with fail
 refine (cv _ B _ l e _ HR.out).mono ?_;rintro _ w1 ⟨rfl,h2,h3⟩;have H2:Hid (RR w1 B p [] (aO e)):=h2;clear h2;go_wp2
 go_returns
 exact ⟨rfl,H2.out,h3⟩
theorem mX (w:World) (B p:Nat) (l:List Int) (e:Int) (hr:RR w B p l e) :
 Calls Tryz.prog 101 #[.pointer (some ⟨p,0,none⟩)] w fun r w'=>r=.returned (.bool (aM e l).2.1)∧RR w' B p (aM e l).2.2 (aM e l).1∧ab [p] w w':=by
 have HR:Hid (RR w B p l e):=hr;obtain ⟨ao,c,c0,c1,c3,hc,hc2,HS,HA,H3⟩:=hr.cells;by_cases he:e=0
 ·subst he;cases l with
  | nil =>
    have HE:Hid (aM 0 []=(2,false,[])):=rfl;clear hr;go_enter Tryz.func101,Tryz.ntmps101;(go_wp2_with fail);refine (cv _ B _ [] 0 _ HR.out).mono ?_;rw [dL];rintro _ w1 ⟨rfl,hR2,hk2⟩;obtain ⟨ao2,cc2,d0,d1,d3,_⟩:=hR2.cells;have HR2:Hid (RR w1 B p [] 2):=hR2;clear hR2;go_wp2
    go_ret
    rw [HE.out];exact ⟨rfl,HR2.out,hk2⟩
  | cons d l' =>
    have ho:0≤d∧d < 256:=by obtain ⟨_,_,_,_,_,_,h5,_⟩:=hr;exact h5.head
    obtain ⟨b,o,rfl,hcell⟩:=HS.out.some (by simp);have g1:w.cell? ⟨b,o,none⟩=some (.int .u8 d):=hcell 0 (by simp);obtain ⟨n,hn⟩:∃ n,n=(d :: l').length:=⟨_,rfl⟩;have hn0:0 < n:=by rw [hn];simp
    have hne:¬ n=0:=by omega
    have HN:Hid (n=(d :: l').length):=hn;rw [← hn] at c0 hc;clear hr hcell hn;by_cases hd:1 < d
    ·have HE:Hid (aM 0 (d :: l')=(4,false,[])):=by show aM 0 (d :: l')=_;unfold aM;rw [if_pos rfl,cr,if_pos hd]
     go_enter Tryz.func101,Tryz.ntmps101;(go_wp2_with fail);refine (cv _ B _ _ 0 _ HR.out).mono ?_;rw [dL];rintro _ w1 ⟨rfl,hR2,hk2⟩;obtain ⟨ao2,cc2,d0,d1,d3,_⟩:=hR2.cells;have HR2:Hid (RR w1 B p [] 4):=hR2;clear hR2;go_wp2
     go_ret
     rw [HE.out];exact ⟨rfl,HR2.out,hk2⟩
    ·have HE:Hid (aM 0 (d :: l')=(0,d==1,l')):=by show aM 0 (d :: l')=_;unfold aM;rw [if_pos rfl,cr,if_neg hd]
     have HFIN:Hid (∀ a' m c',m=n - 1→((a'=some ⟨b,o,none⟩∧c'=0∧c=1)∨(a'=Option.map (fun x=>x.add 1) (some (⟨b,o,none⟩:Addr))∧c'=c - 1)) →
      RR (w.setCell ⟨p,0,none⟩ (.slice a' m c')) B p l' 0∧ab [p] w (w.setCell ⟨p,0,none⟩ (.slice a' m c'))):=by
      intro a' m c' hm hv;exact RR.cut HR.out HS.out HA.out H3.out (k:=1) (by simp) a' m c' (by rw [← HN.out];exact hm) hv
     go_enter Tryz.func101,Tryz.ntmps101;go_wp2
     ·go_ret
      rw [HE.out];exact ⟨rfl,HFIN.out _ _ _ (by omega) (.inl ⟨rfl,rfl,by omega⟩)⟩
     ·go_ret
      rw [HE.out];exact ⟨rfl,HFIN.out _ _ _ (by omega) (.inr ⟨rfl,rfl⟩)⟩
 ·have HE:Hid (aM e l=(e,false,[])):=by show aM e l=_;unfold aM;rw [if_neg he]
  have hb:(e==0)=false:=by simp [he]
  have hl2:l=[]:=by obtain ⟨_,_,_,_,_,_,_,h6⟩:=hr;exact h6 he
  subst hl2;clear hr;go_enter Tryz.func101,Tryz.ntmps101;go_wp2
  go_ret
  rw [HE.out];exact ⟨rfl,HR.out,ab.refl _ _⟩
theorem nF (w:World) (B p:Nat) (l:List Int) (e:Int) (hr:RR w B p l e) :
 Calls Tryz.prog 83 #[.pointer (some ⟨p,0,none⟩)] w fun r w'=>r=.returned (.int .u64 (aN e l).2.1)∧RR w' B p (aN e l).2.2 (aN e l).1∧ab [p] w w':=by
 have HR:Hid (RR w B p l e):=hr;have HO:Hid (bi l):=by obtain ⟨_,_,_,_,_,_,h5,_⟩:=hr;exact h5
 obtain ⟨ao,c,c0,c1,c3,hc,hc2,HS,HA,H3⟩:=hr.cells;by_cases he:e=0
 ·subst he;clear hr;by_cases hsh:l.length < 8
  ·have hsh':(l.length:Int) < 8:=by omega
   have HE:Hid (aN 0 l=(2,0,[])):=by show aN 0 l=_;unfold aN cY;rw [if_pos rfl,if_pos hsh]
   go_enter Tryz.func83,Tryz.ntmps83;(go_wp2_with fail);refine (cv _ B _ _ 0 _ HR.out).mono ?_;rw [dL];rintro _ w1 ⟨rfl,hR2,hk2⟩;obtain ⟨ao2,cc2,d0,d1,d3,_⟩:=hR2.cells;have HR2:Hid (RR w1 B p [] 2):=hR2;clear hR2;go_wp2
   go_ret
   rw [HE.out];exact ⟨rfl,HR2.out,hk2⟩
  ·have hsh':¬ (l.length:Int) < 8:=by omega
   have HE:Hid (aN 0 l=(0,bs (l.take 8),l.drop 8)):=by show aN 0 l=_;unfold aN cY;rw [if_pos rfl,if_neg hsh]
   have HFIN:Hid (∀ a' m c',m=l.length - 8→((a'=ao∧c'=0∧c=8)∨(a'=Option.map (fun x=>x.add 8) ao∧c'=c - 8)) →
    RR (w.setCell ⟨p,0,none⟩ (.slice a' m c')) B p (l.drop 8) 0∧ab [p] w (w.setCell ⟨p,0,none⟩ (.slice a' m c'))):=by
    intro a' m c' hm hv;exact RR.cut HR.out HS.out HA.out H3.out (k:=8) (by omega) a' m c' hm hv
   obtain ⟨b,o,rfl,hcell⟩:=HS.out.some (by omega);have HC:Hid (∀ i,i < l.length→w.cell? ⟨b,o+i,none⟩=some (.int .u8 (l.getD i 0))):=hcell;clear hcell;go_enter Tryz.func83,Tryz.ntmps83;go_wp2
   go_loop [3,4] (fun t i=>∃ (k:Nat) (x:Int),k≤8∧i=.int .i64 k∧t=.int .u64 x∧Hid (x=bs (l.take k))) (fun _ i=>8 - (intOf i).toNat)
   case atStart=>exact ⟨0,0,by omega,rfl,rfl,rfl⟩
   case round =>
    obtain ⟨k,x,hk,rfl,rfl,HX⟩:=hrel;by_cases hlt:k < 8
    ·have g1:w.cell? ⟨b,o+k,none⟩=some (.int .u8 (l.getD k 0)):=HC.out k (by omega);have gd:=gu HO.out (show k < l.length by omega);have hb:0≤x∧x < 18446744073709551616:=by rw [HX.out];exact o6 _ (HO.out.take k)
     have hts:=fz (show k < l.length by omega);have HTS:Hid (l.take (k+1)=l.take k++[l.getD k 0]):=hts;clear hts;generalize hd:l.getD k 0=d at g1 gd;have HD:Hid (l.getD k 0=d):=hd;clear hd;obtain ⟨gd0,gd1⟩:=gd
     have HOR:Hid (bits .or .u64 (IntKind.u64.wrap (x*256)) d=x*256 % 18446744073709551616+d):=by
      have hor:=kQ x d hb.1 hb.2 gd0 gd1;rw [← IntKind.wrap_u64] at hor;show bits .or .u64 (IntKind.u64.wrap (x*256)) d=x*256 % 18446744073709551616+d;rw [hor,IntKind.wrap_u64]
     clear hb;go_wp2
     go_round
     case rel=>exact ⟨k+1,_,by omega,by go_num,rfl,by show _=bs (l.take (k+1));rw [HOR.out,HTS.out,jg,← HX.out,HD.out]⟩
     case measure=>simp [intOf];omega
    ·obtain rfl:k=8:=by omega
     go_wp2
     ·go_ret
      rw [HE.out];exact ⟨gO HX.out,HFIN.out _ _ _ (by omega) (.inl ⟨rfl,rfl,by omega⟩)⟩
     ·go_ret
      rw [HE.out];exact ⟨gO HX.out,HFIN.out _ _ _ (by omega) (.inr ⟨rfl,rfl⟩)⟩
 ·have HE:Hid (aN e l=(e,0,[])):=by show aN e l=_;unfold aN;rw [if_neg he]
  have hb:(e==0)=false:=by simp [he]
  have hl2:l=[]:=by obtain ⟨_,_,_,_,_,_,_,h6⟩:=hr;exact h6 he
  subst hl2;clear hr;go_enter Tryz.func83,Tryz.ntmps83;go_wp2
  go_ret
  rw [HE.out];exact ⟨rfl,HR.out,ab.refl _ _⟩
end Go.Proofs.YtakafmejllilnaaGreat
