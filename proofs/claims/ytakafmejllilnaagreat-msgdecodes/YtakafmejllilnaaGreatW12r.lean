/-
  Texts laid as one.
-/
import Derived.Test.YtakafmejllilnaaGreatF3r
import Derived.Test.YtakafmejllilnaaGreatF5r
set_option maxHeartbeats 2000000
set_option maxRecDepth 100000
/-
 Frame and Unframe,by their contracts.
-/
namespace Go.Proofs.YtakafmejllilnaaGreat
open Go.RowKit
def dv (w:World) (a:Option Addr) (n c:Nat) (L:List Int) (w':World):Prop :=
 Sl w' a n c L∧(∀ k∈bO a,w.heap.size≤k∧k < w'.heap.size)∧ab [] w w'
theorem dv.nil {w w':World}(h:ab [] w w'):dv w none 0 0 [] w':=⟨Sl.nil _,by simp [bO],h⟩
theorem og (w:World) (ao:Option Addr) (n c:Nat) (l:List Int) (hs:Sl w ao n c l) (ho:bi l) :
 Calls Tryz.prog 22 #[.slice ao n c] w fun r w'=>∃ a n' c',r=.returned (.tuple #[.slice a n' c',.int .i64 (dn l).2])∧dv w a n' c' (dn l).1 w':=by
 have hn:=hs.1;subst hn;have hm:=hs.2.2.1;have hc:=hs.2.1;unfold maxLen at hm;have HS:Hid (Sl w ao l.length c l):=hs;clear hs;by_cases hbig:1048576 < l.length
 ·have hb2:(1048576:Int) < (l.length:Int):=by omega
  have HE:Hid (dn l=([],3)):=by show dn l=([],3);unfold dn;rw [if_neg (by omega)]
  go_enter Tryz.func22,Tryz.ntmps22;go_wp2
  go_ret2
  rw [HE.out];exact ⟨none,0,0,rfl,dv.nil (ab.refl _ _)⟩
 ·have hb2:¬ (1048576:Int) < (l.length:Int):=by omega
  have HE:Hid (dn l=(ci l,0)):=by show dn l=(ci l,0);unfold dn;rw [if_pos (by omega)]
  go_enter Tryz.func22,Tryz.ntmps22;(go_wp2_with fail);refine (eg _ _ [] _ 4 (World.ownsRow_nil _ _ _ _) (by omega) (by simp)).mono ?_;rintro _ w1 ⟨v1,rfl,hO1,hf1,hk1⟩;simp only [List.nil_append] at hO1;obtain ⟨a1,n1,c1,rfl,hs1,hb1⟩:=Sl.of_owns' hO1;have hk1':ab [] w w1:=hk1;clear hk1;(go_wp2_with fail);refine (fy _ _ [] _ _ _ _ (World.ownsRow_nil _ _ _ _) hs1 (fg _ _) (by intro _ k _ h;cases h) (by simp) (by have:=hs1.1;rw [a5] at this;omega)).mono ?_;rintro _ w2 ⟨v2,rfl,hO2,hf2,hk2⟩;have hk2':ab [] w1 w2:=hk2;simp only [List.nil_append] at hO2;have hs2:Sl w2 ao l.length c l:=Sl.kept (hk1'.trans hk2' (by simp)) HS.out (by simp);clear hk2
  have hdis:0 < l.length→∀ k∈bO ao,v2.ownBlock≠some k:=by
   intro h0 k hk h;have h2:=HS.out.lt h0 k hk;rcases hf2 k h with h3 | h3
   ·cases h3
   ·have:=hk1'.size;omega
  (go_wp2_with fail);refine (fy _ _ _ _ _ _ _ hO2 hs2 ho hdis (by simp [a5]) (by omega)).mono ?_;rintro _ w3 ⟨v3,rfl,hO3,hf3,hk3⟩;obtain ⟨a3,n3,c3,rfl,hs3,hb3⟩:=Sl.of_owns' hO3;have hK2:ab [] w w2:=hk1'.trans hk2' (by simp)
  have hfresh:∀ k,v2.ownBlock=some k→w.heap.size≤k:=by
   intro k hk;rcases hf2 k hk with h3 | h3
   ·cases h3
   ·have:=hk1'.size;omega
  have hM:dv w a3 n3 c3 (ci l) w3:=by
   refine ⟨hs3,fun k hk=>?_,hK2.trans hk3 (fun i hi=>.inr (hfresh i (by simpa using hi)))⟩;have h4:=hb3 k hk;refine ⟨?_,h4.2.1⟩;rcases hf3 k h4.2.2 with h5 | h5
   ·exact hfresh k h5
   ·have:=hK2.size;omega
  clear hO1 hO2 hO3 hs1 hs3 hb3 hf3 hk3;have HM:Hid (dv w a3 n3 c3 (ci l) w3):=hM;clear hM;go_wp2
  go_ret2
  rw [HE.out];exact ⟨a3,n3,c3,rfl,HM.out⟩
theorem il (l:List Int) (h:l.length < 8):aE l=([],0,2):=by unfold aE;rw [if_pos h]
theorem iK (l:List Int) (h:¬ l.length < 8) (h1:bN (l.take 8)=false):aE l=([],0,5):=by unfold aE;rw [if_neg h,if_pos h1]
theorem i1 (l:List Int) (h:¬ l.length < 8) (h1:¬ bN (l.take 8)=false) (h2:1048576 < bs (l.take 4)):aE l=([],0,3):=by unfold aE;rw [if_neg h,if_neg h1,if_pos h2]
theorem gE (l:List Int) (h:¬ l.length < 8) (h1:¬ bN (l.take 8)=false) (h2:¬ 1048576 < bs (l.take 4)) (h3:(l.length:Int) < bs (l.take 4)+12):aE l=([],0,2):=by
 unfold aE;rw [if_neg h,if_neg h1,if_neg h2,if_pos h3]
theorem iN (l:List Int) (h:¬ l.length < 8) (h1:¬ bN (l.take 8)=false) (h2:¬ 1048576 < bs (l.take 4)) (h3:¬ (l.length:Int) < bs (l.take 4)+12)
 (h4:bN ((l.take ((bs (l.take 4)).toNat+12)).drop 8)=false):aE l=([],0,5):=by
 unfold aE;rw [if_neg h,if_neg h1,if_neg h2,if_neg h3,if_pos h4]
theorem kb (l:List Int) (h:¬ l.length < 8) (h1:¬ bN (l.take 8)=false) (h2:¬ 1048576 < bs (l.take 4)) (h3:¬ (l.length:Int) < bs (l.take 4)+12)
 (h4:¬ bN ((l.take ((bs (l.take 4)).toNat+12)).drop 8)=false):aE l=((l.take (8+(bs (l.take 4)).toNat)).drop 8,bs (l.take 4)+12,0):=by
 unfold aE;rw [if_neg h,if_neg h1,if_neg h2,if_neg h3,if_neg h4]
theorem mv (w:World) (ao:Option Addr) (n c:Nat) (l:List Int) (hs:Sl w ao n c l) (ho:bi l) :
 Calls Tryz.prog 23 #[.slice ao n c] w fun r w'=>∃ a n' c',r=.returned (.tuple #[.slice a n' c',.int .i64 (aE l).2.1,.int .i64 (aE l).2.2])∧dv w a n' c' (aE l).1 w':=by
 have hn:=hs.1;subst hn;have hm:=hs.2.2.1;have hc:=hs.2.1;unfold maxLen at hm;have HS:Hid (Sl w ao l.length c l):=hs;clear hs;by_cases h8:l.length < 8
 ·have h8':(l.length:Int) < 8:=by omega
  have HE:Hid (aE l=([],0,2)):=il l h8;go_enter Tryz.func23,Tryz.ntmps23;go_wp2
  go_ret3
  rw [HE.out];exact ⟨none,0,0,rfl,dv.nil (ab.refl _ _)⟩
 ·have h8':¬ (l.length:Int) < 8:=by omega
  have h8n:¬ l.length < 8:=h8;have hs8:Sl w ao 8 c (l.take 8):=HS.out.take (by omega);have HS8:Hid (Sl w ao 8 c (l.take 8)):=hs8;have hs4:Sl w ao 4 c (l.take 4):=HS.out.take (by omega);have HS4:Hid (Sl w ao 4 c (l.take 4)):=hs4;clear hs8 hs4;have hbd:=lO (l.take 4) (by simp;omega) (ho.take 4);obtain ⟨X,hX⟩:∃ X,X=bs (l.take 4):=⟨_,rfl⟩;rw [← hX] at hbd;obtain ⟨hX0,hX1,_⟩:=hbd;have HX:Hid (X=bs (l.take 4)):=hX;clear hX h8;go_enter Tryz.func23,Tryz.ntmps23;(go_wp2_with fail);refine (ig _ _ _ _ _ HS8.out (ho.take 8) (by omega)).mono ?_;rintro _ _ ⟨rfl,q1,rfl⟩;cases hsum:bN (l.take 8) with
  | false =>
    have HE:Hid (aE l=([],0,5)):=iK l h8n hsum;go_wp2
    go_ret3
    rw [HE.out];exact ⟨none,0,0,rfl,dv.nil ((ab.refl _ _).drewN _)⟩
  | true =>
    have hsum1:¬ bN (l.take 8)=false:=by rw [hsum];simp
    have HSU:Hid (¬ bN (l.take 8)=false):=hsum1;clear hsum hsum1;(go_wp2_with fail);refine (fm _ _ _ _ _ (HS4.out.drewN _) (ho.take 4)).mono ?_;rintro _ _ ⟨rfl,rfl⟩;rw [← HX.out];by_cases hbig:1048576 < X
    ·have HE:Hid (aE l=([],0,3)):=i1 l h8n HSU.out (by rw [← HX.out];exact hbig);go_wp2
     go_ret3
     rw [HE.out];exact ⟨none,0,0,rfl,dv.nil ((ab.refl _ _).drewN _)⟩
    ·by_cases hsh:(l.length:Int) < X+12
     ·have HE:Hid (aE l=([],0,2)):=gE l h8n HSU.out (by rw [← HX.out];exact hbig) (by rw [← HX.out];exact hsh);go_wp2
      go_ret3
      rw [HE.out];exact ⟨none,0,0,rfl,dv.nil ((ab.refl _ _).drewN _)⟩
     ·have hc8:¬ c=8:=by omega
      have hle:(X+12).toNat≤l.length:=by omega
      have hle2:(8+X).toNat≤l.length:=by omega
      have HS2:Hid (Sl w (Option.map (fun x=>({ block:=x.block,off:=x.off+8 }:Addr)) ao) ((X+12).toNat - 8) (c - 8) ((l.take (X+12).toNat).drop 8)):=HS.out.cut (by omega) (by omega) hle;have HS3:Hid (Sl w (Option.map (fun x=>({ block:=x.block,off:=x.off+8 }:Addr)) ao) ((8+X).toNat - 8) (c - 8) ((l.take (8+X).toNat).drop 8)):=HS.out.cut (by omega) (by omega) hle2;have HT:Hid ((bs (l.take 4)).toNat+12=(X+12).toNat):=by show (bs (l.take 4)).toNat+12=(X+12).toNat;rw [← HX.out];omega
      have HT2:Hid (8+(bs (l.take 4)).toNat=(8+X).toNat):=by show 8+(bs (l.take 4)).toNat=(8+X).toNat;rw [← HX.out];omega
      clear hle hle2;(go_wp2_with fail);refine (ig _ _ _ _ _ (HS2.out.drewN _) ((ho.take _).drop _) (by omega)).mono ?_;rintro _ _ ⟨rfl,q2,rfl⟩;cases hsum2:bN ((l.take (X+12).toNat).drop 8) with
      | false =>
        have HE:Hid (aE l=([],0,5)):=iN l h8n HSU.out (by rw [← HX.out];omega) (by rw [← HX.out];omega) (by rw [HT.out];exact hsum2);clear hsum2;go_wp2
        go_ret3
        rw [HE.out];exact ⟨none,0,0,rfl,dv.nil ((ab.refl _ _).drewN _)⟩
      | true =>
        have HE:Hid (aE l=((l.take (8+X).toNat).drop 8,X+12,0)):=by
         have:=kb l h8n HSU.out (by rw [← HX.out];omega) (by rw [← HX.out];omega) (by rw [HT.out,hsum2];simp)
         rw [HT2.out,← HX.out] at this;exact this
        clear hsum2;(go_wp2_with fail);refine (gX _ _ _ _ _ (HS3.out.drewN _) (by omega)).mono ?_;rintro _ w3 ⟨a3,c3,rfl,hs3,hb3,hk3⟩;have HM:Hid (dv w a3 ((8+X).toNat - 8) c3 ((l.take (8+X).toNat).drop 8) w3):=⟨hs3,hb3,((ab.refl _ _).drewN _).trans hk3 (by simp)⟩;clear hs3 hb3 hk3;go_wp2
        go_ret3
        rw [HE.out];exact ⟨a3,_,c3,rfl,HM.out⟩
theorem jp (w:World) (x:Int) (h0:0≤x) (h1:x≤4294967295) :
 Calls Tryz.prog 52 #[.int .u32 x] w fun r w'=>∃ v,r=.returned v∧fk w' v (dR 4 x)∧(∀ k,v.ownBlock=some k→w.heap.size≤k)∧ab [] w w':=by
 go_enter Tryz.func52,Tryz.ntmps52;go_wp2
 go_ret
 have e:x / 16777216 % 256=x / 16777216:=by omega
 refine ⟨_,rfl,?_,?_,(ab.refl _ _).alloc _⟩
 ·have h:=World.ownsRow_lit (base:=0) (e:=5) (size:=1) w #[Value.int .u8 (x / 16777216),Value.int .u8 (x / 65536 % 256),Value.int .u8 (x / 256 % 256),Value.int .u8 (x % 256)] 4 (Nat.zero_le _) (by decide) rfl;have h2:dR 4 x=[x / 16777216,x / 65536 % 256,x / 256 % 256,x % 256]:=by rw [vv,e]
  rw [h2];exact h
 ·intro k hk;cases hk
  exact Nat.le_refl _
theorem kg (n:Int) (h₀:0≤n) (h₁:n < 2 ^ 32):IntKind.u32.wrap n=n:=by rw [IntKind.wrap_u32];omega
theorem pL (a b c d:Int) (ha:0≤a∧a < 256) (hb:0≤b∧b < 256) (hc:0≤c∧c < 256) (hd:0≤d∧d < 256) :
 bits .or .u32 (bits .or .u32 (bits .or .u32 (a % 4294967296*16777216 % 4294967296) (b % 4294967296*65536 % 4294967296)) (c % 4294967296*256 % 4294967296)) (d % 4294967296)=a*16777216+b*65536+c*256+d:=by
 have e1:a % 4294967296*16777216 % 4294967296=a*16777216:=by omega
 have e2:b % 4294967296*65536 % 4294967296=b*65536:=by omega
 have e3:c % 4294967296*256 % 4294967296=c*256:=by omega
 have e4:d % 4294967296=d:=by omega
 rw [e1,e2,e3,e4];rw [bits_join .u32 32 (by decide) kg 24 (a*16777216) (b*65536) (by omega) (by omega) (by omega) (by omega) (by omega) (by omega)];rw [bits_join .u32 32 (by decide) kg 16 (a*16777216+b*65536) (c*256) (by omega) (by omega) (by omega) (by omega) (by omega) (by omega)];rw [bits_join .u32 32 (by decide) kg 8 (a*16777216+b*65536+c*256) d (by omega) (by omega) (by omega) (by omega) (by omega) (by omega)]
theorem jw (w:World) (ao:Option Addr) (n c:Nat) (l:List Int) (hs:Sl w ao n c l) (ho:bi l) (h4:n=4) :
 Calls Tryz.prog 78 #[.slice ao n c] w fun r w'=>r=.returned (.int .u32 (bs l))∧∃ q,w'=w.drewN q:=by
 subst h4;obtain ⟨a,b,c',d,rfl⟩:=vm hs.1;obtain ⟨bb,o,rfl,hcell⟩:=hs.some (by omega);have hc0:=hcell 0 (by omega);have hc1:=hcell 1 (by omega);have hc2:=hcell 2 (by omega);have hc3:=hcell 3 (by omega);simp at hc0 hc1 hc2 hc3
 have hcc:=hs.2.1;clear hcell hs;go_enter Tryz.func78,Tryz.ntmps78;go_wp2
 go_quiet (fail)
 go_wp2
 go_ret
 refine ⟨?_,_,rfl⟩;rw [sm _ _ _ _ ho];exact gO (pL a b c' d (ho a (by simp)) (ho b (by simp)) (ho c' (by simp)) (ho d (by simp)))
theorem vj (w:World) (ao:Option Addr) (n c:Nat) (l:List Int) (hs:Sl w ao n c l) (ho:bi l) :
 Calls Tryz.prog 20 #[.slice ao n c] w fun r w'=>∃ a n' c',r=.returned (.tuple #[.slice a n' c',.int .i64 (dn l).2])∧dv w a n' c' (dn l).1 w':=by
 obtain ⟨i0,hi,hz0,hz1,hz2⟩:=info_parts eL;have hn:=hs.1;subst hn;have hm:=hs.2.2.1;have hc:=hs.2.1;unfold maxLen at hm;have HS:Hid (Sl w ao l.length c l):=hs;clear hs;by_cases hbig:1048576 < l.length
 ·have hb2:(1048576:Int) < (l.length:Int):=by omega
  have HE:Hid (dn l=([],3)):=by show dn l=([],3);unfold dn;rw [if_neg (by omega)]
  go_enter Tryz.func20,Tryz.ntmps20;go_wp2
  go_ret2
  rw [HE.out];exact ⟨none,0,0,rfl,dv.nil (ab.refl _ _)⟩
 ·have hb2:¬ (1048576:Int) < (l.length:Int):=by omega
  have HE:Hid (dn l=(ci l,0)):=by show dn l=(ci l,0);unfold dn;rw [if_pos (by omega)]
  go_enter Tryz.func20,Tryz.ntmps20;(go_wp2_with fail);refine (jp _ _ (by omega) (by omega)).mono ?_;have HE2:Hid (ci l=dR 4 (l.length:Int)++dR 4 (db (dR 4 (l.length:Int)))++(l++dR 4 (db l))):=rfl;have hA4:=a5 4 (l.length:Int);have hAo:=fg 4 (l.length:Int);generalize dR 4 (l.length:Int)=A at HE2 hA4 hAo ⊢;have HA4:Hid (A.length=4):=hA4;clear hA4;rintro _ w1 ⟨v1,rfl,hO1,hf1,hk1⟩;obtain ⟨a1,n1,c1,rfl,hs1,hb1⟩:=ef hO1;have hn1:n1≤4:=by have:=hs1.1;have:=HA4.out;omega
  (go_wp2_with fail);refine (gZ _ _ _ _ _ hs1 (by omega)).mono ?_;rintro _ w2 ⟨v2,rfl,hO2,hf2,hk2⟩;have hs12:=Sl.kept hk2 hs1 (by simp);have hcr1:=gG A;(go_wp2_with fail);refine (hZ _ _ _ _ _ hs12 hAo).mono ?_;rintro _ _ ⟨rfl,rfl⟩;(go_wp2_with fail);refine (jp _ _ (by omega) (by omega)).mono ?_;have hB4:=a5 4 (db A:Int);generalize dR 4 (db A:Int)=B at HE2 hB4 ⊢;have HB4:Hid (B.length=4):=hB4;clear hB4;rintro _ w3 ⟨v3,rfl,hO3,hf3,hk3⟩;obtain ⟨a3,n3,c3,rfl,hs3,hb3⟩:=ef hO3;have hn3:n3≤4:=by have:=hs3.1;have:=HB4.out;omega
  have hO23:fk w3 v2 A:=hk3.ownsRow hO2 (by simp);have hw1:=hk1.size;have hw2:=hk2.size;have hw3:=hk3.size;clear hO1 hs1 hb1 hO2 hs12 hO3 hb3;(go_wp2_with (at_builtin;refine jn rfl _ _ rfl v2 A rfl hO23 a3 n3 c3 B rfl hs3 (by have:=HA4.out;omega) ?_));intro v4 w4 hO4 hf4 hk4
  have hF4:∀ k,v4.ownBlock=some k→w.heap.size≤k:=by
   intro k hk;rcases hf4 k hk with h5 | h5
   ·have:=hf2 k h5;omega
   ·omega
  have hK4:ab [] w w4:=((hk1.trans hk2 (by simp)).trans hk3 (by simp)).trans hk4 (by intro i hi;right;have:=hf2 i (by simpa using hi);omega);have hs4:=Sl.kept hK4 HS.out (by simp);have hAB:(A++B).length≤8:=by have:=HA4.out;have:=HB4.out;simp;omega
  generalize A++B=AB at HE2 hO4 hAB;clear hO23 hs3 hf4 hk4 hf2 hf3;(go_wp2_with (at_builtin;refine jn rfl _ _ rfl v4 AB rfl hO4 ao l.length c l rfl hs4 (by omega) ?_));intro v5 w5 hO5 hf5 hk5
  have hF5:∀ k,v5.ownBlock=some k→w.heap.size≤k:=by
   intro k hk;rcases hf5 k hk with h5 | h5
   ·exact hF4 k h5
   ·have:=hK4.size;omega
  have hK5:ab [] w w5:=hK4.trans hk5 (by intro i hi;right;exact hF4 i (by simpa using hi));have hs5:=Sl.kept hK5 HS.out (by simp);have hcr2:=gG l;clear hO4 hf5 hk5 hs4;(go_wp2_with fail);refine (hZ _ _ _ _ _ hs5 ho).mono ?_;rintro _ _ ⟨rfl,rfl⟩;(go_wp2_with fail);refine (jp _ _ (by omega) (by omega)).mono ?_;have hD4:=a5 4 (db l:Int);generalize dR 4 (db l:Int)=D at HE2 hD4 ⊢;have HD4:Hid (D.length=4):=hD4;clear hD4;rintro _ w6 ⟨v6,rfl,hO6,hf6,hk6⟩;obtain ⟨a6,n6,c6,rfl,hs6,hb6⟩:=ef hO6;have hn6:n6≤4:=by have:=hs6.1;have:=HD4.out;omega
  have hO56:fk w6 v5 (AB++l):=hk6.ownsRow hO5 (by simp);have hK6:ab [] w w6:=hK5.trans hk6 (by simp);have hlen6:(AB++l).length≤1048584:=by simp;omega
  generalize hG:AB++l=G at hO56 hlen6;have HG:Hid (AB++l=G):=hG;clear hO5 hO6 hb6 hs5 hG;(go_wp2_with (at_builtin;refine jn rfl _ _ rfl v5 G rfl hO56 a6 n6 c6 D rfl hs6 (by omega) ?_));intro v7 w7 hO7 hf7 hk7;obtain ⟨a7,n7,c7,rfl,hs7,hb7⟩:=ef hO7
  have HM:Hid (dv w a7 n7 c7 (ci l) w7):=by
   refine ⟨?_,fun k hk=>⟨?_,(hb7 k hk).1⟩,hK6.trans hk7 (by intro i hi;right;exact hF5 i (by simpa using hi))⟩
   ·rw [HE2.out,← List.append_assoc,HG.out];exact hs7
   ·rcases hf7 k (hb7 k hk).2 with h5 | h5
    ·exact hF5 k h5
    ·have:=hK6.size;omega
  clear hO7 hs7 hb7 hf7 hk7 hO56 hs6;go_wp2
  go_ret2
  rw [HE.out];exact ⟨a7,n7,c7,rfl,HM.out⟩
theorem uM (l:List Int) (h:¬ l.length < 8):bN (l.take 8)=(bs ((l.take 8).drop 4)==(db (l.take 4):Int)):=by
 have e:(l.take 8).length=8:=by simp;omega
 unfold bN;rw [e];have e2:(l.take 8).take (8 - 4)=l.take 4:=by rw [List.take_take];rfl
 rw [e2]
theorem tj (l:List Int) (x:Nat) (h:x+12≤l.length):bN ((l.take (x+12)).drop 8)=(bs ((l.take (x+12)).drop (x+8))==(db ((l.take (x+8)).drop 8):Int)):=by
 have e:((l.take (x+12)).drop 8).length=x+4:=by simp;omega
 unfold bN;rw [e];have e2:((l.take (x+12)).drop 8).drop (x+4 - 4)=(l.take (x+12)).drop (x+8):=by rw [List.drop_drop];congr 1;omega
 have e3:((l.take (x+12)).drop 8).take (x+4 - 4)=(l.take (x+8)).drop 8:=by
  rw [List.take_drop,List.take_take];congr 2;omega
 rw [e2,e3]
theorem Sl.cutv {w:World}{ao:Option Addr}{n c:Nat}{l:List Int}(hs:Sl w ao n c l) {k m:Nat}(h:k≤m) (hm:m≤n):Sl w (Option.map (fun x=>x.add k) ao) (m - k) (c - k) ((l.take m).drop k) :=
 (hs.take hm).drop h
theorem rm (w:World) (ao:Option Addr) (n c:Nat) (lo hi:Int) (h0:0≤lo) (h1:lo≤hi) (h2:hi≤(c:Int)) (hne:¬ c=lo.toNat) :
 (Instr.slice 23 (.slice ao n c) (some (.int .i64 lo)) (some (.int .i64 hi)) none).run Tryz.prog w=.ok (.slice (Option.map (fun x=>x.add lo.toNat) ao) (hi.toNat - lo.toNat) (c - lo.toNat)) w:=by
 obtain ⟨i0,hi0,hz0,hz1,hz2⟩:=info_parts eL;have he:Tryz.prog.elem 23=5:=by kernel_rfl
 have hu:Tryz.prog.underlying 23=some (.slice (Tryz.prog.elem 23)):=by rw [he];exact Tryz.underlying23
 rw [run_slice_lh w _ ao n c hu .i64 .i64 lo hi h0 h1 h2,he];have hsz:(Go.sizeOf 5).run Tryz.prog w=.ok 1 w:=by simp [Go.sizeOf,typeInfo,hi0,hz1]
 rw [hsz];simp [sliced,hne,Result.andThen]
 done
theorem lf (w:World) (ao:Option Addr) (n c:Nat) (l:List Int) (hs:Sl w ao n c l) (ho:bi l) :
 Calls Tryz.prog 41 #[.slice ao n c] w fun r w'=>∃ a n' c',r=.returned (.tuple #[.slice a n' c',.int .i64 (aE l).2.1,.int .i64 (aE l).2.2])∧dv w a n' c' (aE l).1 w':=by
 have hn:=hs.1;subst hn;have hm:=hs.2.2.1;have hc:=hs.2.1;unfold maxLen at hm;have HS:Hid (Sl w ao l.length c l):=hs;clear hs;by_cases h8:l.length < 8
 ·have h8':(l.length:Int) < 8:=by omega
  have HE:Hid (aE l=([],0,2)):=il l h8;go_enter Tryz.func41,Tryz.ntmps41;go_wp2
  go_ret3
  rw [HE.out];exact ⟨none,0,0,rfl,dv.nil (ab.refl _ _)⟩
 ·have h8':¬ (l.length:Int) < 8:=by omega
  have h8n:¬ l.length < 8:=h8;have hs4:Sl w ao 4 c (l.take 4):=HS.out.take (by omega);have HS4:Hid (Sl w ao 4 c (l.take 4)):=hs4;have HS48:Hid (Sl w (Option.map (fun x=>({ block:=x.block,off:=x.off+4 }:Addr)) ao) (8 - 4) (c - 4) ((l.take 8).drop 4)):=HS.out.cut (by omega) (by omega) (by omega);clear hs4;have hbd:=lO (l.take 4) (by simp;omega) (ho.take 4);obtain ⟨X,hX⟩:∃ X,X=bs (l.take 4):=⟨_,rfl⟩;rw [← hX] at hbd;obtain ⟨hX0,hX1,_⟩:=hbd;have HX:Hid (X=bs (l.take 4)):=hX;have hsb:=uM l h8n;have HSB:Hid (bN (l.take 8)=(bs ((l.take 8).drop 4)==(db (l.take 4):Int))):=hsb;have hc4:¬ c=4:=by omega
  have hc8:(8:Int)≤(c:Int):=by omega
  have hc44:(4:Int)≤(c:Int):=by omega
  clear hX h8 hsb;go_enter Tryz.func41,Tryz.ntmps41;go_wp2
  go_quiet (first
   | (go_at_call 78;exact Calls.quiet_of (jw _ _ _ _ _ (HS48.out.drewN _) ((ho.take _).drop _) rfl))
   | (go_at_call 53;exact i8 (hZ _ _ _ _ _ (HS4.out.drewN _) (ho.take _))))
  generalize bs ((l.take 8).drop 4)=Y at HSB ⊢;generalize db (l.take 4)=Z at HSB ⊢;by_cases hYZ:Y=(Z:Int)
  ·have hb:(Y != (Z:Int))=false:=by simp [hYZ]
   have HSU:Hid (¬ bN (l.take 8)=false):=by show ¬ bN (l.take 8)=false;rw [HSB.out];simp [hYZ]
   clear hYZ HSB;(go_wp2_with fail);refine (jw _ _ _ _ _ (HS4.out.drewN _) (ho.take 4) rfl).mono ?_;rintro _ w5 ⟨rfl,q2,hw5⟩;have hK5:ab [] w w5:=by rw [hw5];exact ((ab.refl _ _).drewN _).drewN _
   have HS5:Hid (Sl w5 ao l.length c l):=Sl.kept hK5 HS.out (by simp);clear hw5;rw [← HX.out];by_cases hbig:1048576 < X
   ·have HE:Hid (aE l=([],0,3)):=i1 l h8n HSU.out (by rw [← HX.out];exact hbig);go_wp2
    go_ret3
    rw [HE.out];exact ⟨none,0,0,rfl,dv.nil hK5⟩
   ·by_cases hsh:(l.length:Int) < X+12
    ·have HE:Hid (aE l=([],0,2)):=gE l h8n HSU.out (by rw [← HX.out];exact hbig) (by rw [← HX.out];exact hsh);go_wp2
     go_ret3
     rw [HE.out];exact ⟨none,0,0,rfl,dv.nil hK5⟩
    ·have hcx:¬ c=(X+8).toNat:=by omega
     have hc8':¬ c=8:=by omega
     have hx12:(X+12).toNat≤l.length:=by omega
     have hx8:(X+8).toNat≤l.length:=by omega
     have hci:X+12≤(c:Int):=by omega
     have hci2:X+8≤(c:Int):=by omega
     have hci3:(8:Int)≤X+8:=by omega
     have hci4:X+8≤X+12:=by omega
     have hx80:0≤X+8:=by omega
     have hx120:0≤X+12:=by omega
     have HS2:Hid (Sl w5 (Option.map (fun x=>x.add (X+8).toNat) ao) ((X+12).toNat - (X+8).toNat) (c - (X+8).toNat) ((l.take (X+12).toNat).drop (X+8).toNat)):=HS5.out.cutv (by omega) hx12;have HS3:Hid (Sl w5 (Option.map (fun x=>({ block:=x.block,off:=x.off+8 }:Addr)) ao) ((X+8).toNat - 8) (c - 8) ((l.take (X+8).toNat).drop 8)):=HS5.out.cut (by omega) (by omega) hx8;have h124:(X+12).toNat - (X+8).toNat=4:=by omega
     have H124:Hid ((X+12).toNat - (X+8).toNat=4):=h124;clear h124 hx12 hx8
     have HSB2:Hid (bN ((l.take (X.toNat+12)).drop 8)=(bs ((l.take (X+12).toNat).drop (X+8).toNat)==(db ((l.take (X+8).toNat).drop 8):Int))):=by
      have h1:=tj l X.toNat (by omega);have h2:X.toNat+12=(X+12).toNat:=by omega
      have h3:X.toNat+8=(X+8).toNat:=by omega
      rw [h2,h3] at h1;show bN ((l.take (X.toNat+12)).drop 8)=_;rw [h2];exact h1
     have hw8:IntKind.i64.wrap (X+8)=X+8:=IntWalk.i64_in _ (by omega);have hw12:IntKind.i64.wrap (X+12)=X+12:=IntWalk.i64_in _ (by omega);have hsl:=fun wx=>rm wx ao l.length c (X+8) (X+12) hx80 hci4 hci hcx;go_wp2
     go_quiet (first
      | (go_at_call 78;exact Calls.quiet_of (jw _ _ _ _ _ (HS2.out.drewN _) ((ho.take _).drop _) H124.out))
      | (go_at_call 53;exact i8 (hZ _ _ _ _ _ (HS3.out.drewN _) ((ho.take _).drop _))))
     generalize bs ((l.take (X+12).toNat).drop (X+8).toNat)=Y2 at HSB2 ⊢;generalize db ((l.take (X+8).toNat).drop 8)=Z2 at HSB2 ⊢;by_cases hYZ2:Y2=(Z2:Int)
     ·have hb2:(Y2 != (Z2:Int))=false:=by simp [hYZ2]
      have HE:Hid (aE l=((l.take (X+8).toNat).drop 8,X+12,0)):=by
       have h1:=kb l h8n HSU.out (by rw [← HX.out];omega) (by rw [← HX.out];omega) (by rw [← HX.out,HSB2.out];simp [hYZ2]);rw [← HX.out,show 8+X.toNat=(X+8).toNat by omega] at h1;exact h1
      clear hYZ2 HSB2;(go_wp2_with fail);refine (gZ _ _ _ _ _ (HS3.out.drewN _) (by omega)).mono ?_;rintro _ w3 ⟨v3,rfl,hO3,hf3,hk3⟩;obtain ⟨a3,n3,c3,rfl,hs3,hb3⟩:=ef hO3;have HM:Hid (dv w a3 n3 c3 ((l.take (X+8).toNat).drop 8) w3):=⟨hs3,fun k hk=>⟨Nat.le_trans hK5.size (hf3 k (hb3 k hk).2),(hb3 k hk).1⟩,(hK5.drewN _).trans hk3 (by simp)⟩;clear hs3 hb3 hk3 hO3 hf3;go_wp2
      go_ret3
      rw [HE.out];exact ⟨a3,_,c3,rfl,HM.out⟩
     ·have hb2:(Y2 != (Z2:Int))=true:=by simp [hYZ2]
      have HE:Hid (aE l=([],0,5)):=iN l h8n HSU.out (by rw [← HX.out];omega) (by rw [← HX.out];omega) (by rw [← HX.out,HSB2.out];simp [hYZ2]);clear hYZ2 HSB2;go_wp2
      go_ret3
      rw [HE.out];exact ⟨none,0,0,rfl,dv.nil (hK5.drewN _)⟩
  ·have hb:(Y != (Z:Int))=true:=by simp [hYZ]
   have HE:Hid (aE l=([],0,5)):=iK l h8n (by rw [HSB.out];simp [hYZ]);clear hYZ HSB;go_wp2
   go_ret3
   rw [HE.out];exact ⟨none,0,0,rfl,dv.nil ((ab.refl _ _).drewN _)⟩
end Go.Proofs.YtakafmejllilnaaGreat
