/-
  Frame and Unframe, by their contracts.
-/
import Derived.Test.YtakafmejllilnaaGreatF3e
set_option maxHeartbeats 1000000
namespace Go.Proofs.YtakafmejllilnaaGreat
open Go.RowKit
def eC (w:World) (a:Option Addr) (n c:Nat) (L:List Int) (w':World):Prop :=
 Sl w' a n c L∧(∀ k∈bO a,w.heap.size≤k∧k < w'.heap.size)∧ab [] w w'
theorem eC.nil {w w':World}(h:ab [] w w'):eC w none 0 0 [] w':=⟨Sl.nil _,by simp [bO],h⟩
theorem nT (w:World) (ao:Option Addr) (n c:Nat) (l:List Int) (hs:Sl w ao n c l) (ho:bh l) :
 Calls Tryz.prog 22 #[.slice ao n c] w fun r w'=>∃ a n' c',r=.returned (.tuple #[.slice a n' c',.int .i64 (de l).2])∧eC w a n' c' (de l).1 w':=by
 have hn:=hs.1;subst hn;have hm:=hs.2.2.1;have hc:=hs.2.1;unfold maxLen at hm;have HS:Hid (Sl w ao l.length c l):=hs;clear hs;by_cases hbig:1048576 < l.length
 ·have hb2:(1048576:Int) < (l.length:Int):=by omega
  have HE:Hid (de l=([],3)):=by show de l=([],3);unfold de;rw [if_neg (by omega)]
  go_enter Tryz.func22,Tryz.ntmps22;go_wp2
  go_ret2
  rw [HE.out];exact ⟨none,0,0,rfl,eC.nil (ab.refl _ _)⟩
 ·have hb2:¬ (1048576:Int) < (l.length:Int):=by omega
  have HE:Hid (de l=(dE l,0)):=by show de l=(dE l,0);unfold de;rw [if_pos (by omega)]
  go_enter Tryz.func22,Tryz.ntmps22;(go_wp2_with fail);refine (dK _ _ [] _ 4 (World.ownsRow_nil _ _ _ _) (by omega) (by simp)).mono ?_;rintro _ w1 ⟨v1,rfl,hO1,hf1,hk1⟩;simp only [List.nil_append] at hO1;obtain ⟨a1,n1,c1,rfl,hs1,hb1⟩:=Sl.of_owns' hO1;have hk1':ab [] w w1:=hk1;clear hk1;(go_wp2_with fail);refine (fw _ _ [] _ _ _ _ (World.ownsRow_nil _ _ _ _) hs1 (fK _ _) (by intro _ k _ h;cases h) (by simp) (by have:=hs1.1;rw [bp] at this;omega)).mono ?_;rintro _ w2 ⟨v2,rfl,hO2,hf2,hk2⟩;have hk2':ab [] w1 w2:=hk2;simp only [List.nil_append] at hO2;have hs2:Sl w2 ao l.length c l:=Sl.kept (hk1'.trans hk2' (by simp)) HS.out (by simp);clear hk2
  have hdis:0 < l.length→∀ k∈bO ao,v2.ownBlock≠some k:=by
   intro h0 k hk h;have h2:=HS.out.lt h0 k hk;rcases hf2 k h with h3 | h3
   ·cases h3
   ·have:=hk1'.size;omega
  (go_wp2_with fail);refine (fw _ _ _ _ _ _ _ hO2 hs2 ho hdis (by simp [bp]) (by omega)).mono ?_;rintro _ w3 ⟨v3,rfl,hO3,hf3,hk3⟩;obtain ⟨a3,n3,c3,rfl,hs3,hb3⟩:=Sl.of_owns' hO3;have hK2:ab [] w w2:=hk1'.trans hk2' (by simp)
  have hfresh:∀ k,v2.ownBlock=some k→w.heap.size≤k:=by
   intro k hk;rcases hf2 k hk with h3 | h3
   ·cases h3
   ·have:=hk1'.size;omega
  have hM:eC w a3 n3 c3 (dE l) w3:=by
   refine ⟨hs3,fun k hk=>?_,hK2.trans hk3 (fun i hi=>.inr (hfresh i (by simpa using hi)))⟩;have h4:=hb3 k hk;refine ⟨?_,h4.2.1⟩;rcases hf3 k h4.2.2 with h5 | h5
   ·exact hfresh k h5
   ·have:=hK2.size;omega
  clear hO1 hO2 hO3 hs1 hs3 hb3 hf3 hk3;have HM:Hid (eC w a3 n3 c3 (dE l) w3):=hM;clear hM;go_wp2
  go_ret2
  rw [HE.out];exact ⟨a3,n3,c3,rfl,HM.out⟩
theorem kH (l:List Int) (h:l.length < 8):aS l=([],0,2):=by unfold aS;rw [if_pos h]
theorem lJ (l:List Int) (h:¬ l.length < 8) (h1:dL (l.take 8)=false):aS l=([],0,5):=by unfold aS;rw [if_neg h,if_pos h1]
theorem lW (l:List Int) (h:¬ l.length < 8) (h1:¬ dL (l.take 8)=false) (h2:1048576 < cg (l.take 4)):aS l=([],0,3):=by unfold aS;rw [if_neg h,if_neg h1,if_pos h2]
theorem kr (l:List Int) (h:¬ l.length < 8) (h1:¬ dL (l.take 8)=false) (h2:¬ 1048576 < cg (l.take 4)) (h3:(l.length:Int) < cg (l.take 4)+12):aS l=([],0,2):=by
 unfold aS;rw [if_neg h,if_neg h1,if_neg h2,if_pos h3]
theorem lL (l:List Int) (h:¬ l.length < 8) (h1:¬ dL (l.take 8)=false) (h2:¬ 1048576 < cg (l.take 4)) (h3:¬ (l.length:Int) < cg (l.take 4)+12)
 (h4:dL ((l.take ((cg (l.take 4)).toNat+12)).drop 8)=false):aS l=([],0,5):=by
 unfold aS;rw [if_neg h,if_neg h1,if_neg h2,if_neg h3,if_pos h4]
theorem oH (l:List Int) (h:¬ l.length < 8) (h1:¬ dL (l.take 8)=false) (h2:¬ 1048576 < cg (l.take 4)) (h3:¬ (l.length:Int) < cg (l.take 4)+12)
 (h4:¬ dL ((l.take ((cg (l.take 4)).toNat+12)).drop 8)=false):aS l=((l.take (8+(cg (l.take 4)).toNat)).drop 8,cg (l.take 4)+12,0):=by
 unfold aS;rw [if_neg h,if_neg h1,if_neg h2,if_neg h3,if_neg h4]
set_option maxRecDepth 100000 in
theorem mf (w:World) (ao:Option Addr) (n c:Nat) (l:List Int) (hs:Sl w ao n c l) (ho:bh l) :
 Calls Tryz.prog 23 #[.slice ao n c] w fun r w'=>∃ a n' c',r=.returned (.tuple #[.slice a n' c',.int .i64 (aS l).2.1,.int .i64 (aS l).2.2])∧eC w a n' c' (aS l).1 w':=by
 have hn:=hs.1;subst hn;have hm:=hs.2.2.1;have hc:=hs.2.1;unfold maxLen at hm;have HS:Hid (Sl w ao l.length c l):=hs;clear hs;by_cases h8:l.length < 8
 ·have h8':(l.length:Int) < 8:=by omega
  have HE:Hid (aS l=([],0,2)):=kH l h8;go_enter Tryz.func23,Tryz.ntmps23;go_wp2
  go_ret3
  rw [HE.out];exact ⟨none,0,0,rfl,eC.nil (ab.refl _ _)⟩
 ·have h8':¬ (l.length:Int) < 8:=by omega
  have h8n:¬ l.length < 8:=h8;have hs8:Sl w ao 8 c (l.take 8):=HS.out.take (by omega);have HS8:Hid (Sl w ao 8 c (l.take 8)):=hs8;have hs4:Sl w ao 4 c (l.take 4):=HS.out.take (by omega);have HS4:Hid (Sl w ao 4 c (l.take 4)):=hs4;clear hs8 hs4;have hbd:=pT (l.take 4) (by simp;omega) (ho.take 4);obtain ⟨X,hX⟩:∃ X,X=cg (l.take 4):=⟨_,rfl⟩;rw [← hX] at hbd;obtain ⟨hX0,hX1,_⟩:=hbd;have HX:Hid (X=cg (l.take 4)):=hX;clear hX h8;go_enter Tryz.func23,Tryz.ntmps23;(go_wp2_with fail);refine (gZ _ _ _ _ _ HS8.out (ho.take 8) (by omega)).mono ?_;rintro _ _ ⟨rfl,q1,rfl⟩;cases hsum:dL (l.take 8) with
  | false =>
    have HE:Hid (aS l=([],0,5)):=lJ l h8n hsum;go_wp2
    go_ret3
    rw [HE.out];exact ⟨none,0,0,rfl,eC.nil ((ab.refl _ _).drewN _)⟩
  | true =>
    have hsum1:¬ dL (l.take 8)=false:=by rw [hsum];simp
    have HSU:Hid (¬ dL (l.take 8)=false):=hsum1;clear hsum hsum1;(go_wp2_with fail);refine (fu _ _ _ _ _ (HS4.out.drewN _) (ho.take 4)).mono ?_;rintro _ _ ⟨rfl,rfl⟩;rw [← HX.out];by_cases hbig:1048576 < X
    ·have HE:Hid (aS l=([],0,3)):=lW l h8n HSU.out (by rw [← HX.out];exact hbig);go_wp2
     go_ret3
     rw [HE.out];exact ⟨none,0,0,rfl,eC.nil ((ab.refl _ _).drewN _)⟩
    ·by_cases hsh:(l.length:Int) < X+12
     ·have HE:Hid (aS l=([],0,2)):=kr l h8n HSU.out (by rw [← HX.out];exact hbig) (by rw [← HX.out];exact hsh);go_wp2
      go_ret3
      rw [HE.out];exact ⟨none,0,0,rfl,eC.nil ((ab.refl _ _).drewN _)⟩
     ·have hc8:¬ c=8:=by omega
      have hle:(X+12).toNat≤l.length:=by omega
      have hle2:(8+X).toNat≤l.length:=by omega
      have HS2:Hid (Sl w (Option.map (fun x=>({ block:=x.block,off:=x.off+8 }:Addr)) ao) ((X+12).toNat - 8) (c - 8) ((l.take (X+12).toNat).drop 8)):=HS.out.cut (by omega) (by omega) hle;have HS3:Hid (Sl w (Option.map (fun x=>({ block:=x.block,off:=x.off+8 }:Addr)) ao) ((8+X).toNat - 8) (c - 8) ((l.take (8+X).toNat).drop 8)):=HS.out.cut (by omega) (by omega) hle2;have HT:Hid ((cg (l.take 4)).toNat+12=(X+12).toNat):=by show (cg (l.take 4)).toNat+12=(X+12).toNat;rw [← HX.out];omega
      have HT2:Hid (8+(cg (l.take 4)).toNat=(8+X).toNat):=by show 8+(cg (l.take 4)).toNat=(8+X).toNat;rw [← HX.out];omega
      clear hle hle2;(go_wp2_with fail);refine (gZ _ _ _ _ _ (HS2.out.drewN _) ((ho.take _).drop _) (by omega)).mono ?_;rintro _ _ ⟨rfl,q2,rfl⟩;cases hsum2:dL ((l.take (X+12).toNat).drop 8) with
      | false =>
        have HE:Hid (aS l=([],0,5)):=lL l h8n HSU.out (by rw [← HX.out];omega) (by rw [← HX.out];omega) (by rw [HT.out];exact hsum2);clear hsum2;go_wp2
        go_ret3
        rw [HE.out];exact ⟨none,0,0,rfl,eC.nil ((ab.refl _ _).drewN _)⟩
      | true =>
        have HE:Hid (aS l=((l.take (8+X).toNat).drop 8,X+12,0)):=by
         have:=oH l h8n HSU.out (by rw [← HX.out];omega) (by rw [← HX.out];omega) (by rw [HT.out,hsum2];simp)
         rw [HT2.out,← HX.out] at this;exact this
        clear hsum2;(go_wp2_with fail);refine (gH _ _ _ _ _ (HS3.out.drewN _) (by omega)).mono ?_;rintro _ w3 ⟨a3,c3,rfl,hs3,hb3,hk3⟩;have HM:Hid (eC w a3 ((8+X).toNat - 8) c3 ((l.take (8+X).toNat).drop 8) w3):=⟨hs3,hb3,((ab.refl _ _).drewN _).trans hk3 (by simp)⟩;clear hs3 hb3 hk3;go_wp2
        go_ret3
        rw [HE.out];exact ⟨a3,_,c3,rfl,HM.out⟩
end Go.Proofs.YtakafmejllilnaaGreat
