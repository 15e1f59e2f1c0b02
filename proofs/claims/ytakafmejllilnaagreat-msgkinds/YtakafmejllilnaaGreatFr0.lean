/-
  Frame and Unframe, by their contracts.
-/
import Derived.Test.YtakafmejllilnaaGreatF3
namespace Go.Proofs.YtakafmejllilnaaGreat
open Go.RowKit
def MadeB (w:World) (a:Option Addr) (n c:Nat) (L:List Int) (w':World):Prop :=
 Sl w' a n c L∧(∀ k∈blk a,w.heap.size≤k∧k < w'.heap.size)∧Kept [] w w'
theorem MadeB.nil {w w':World}(h:Kept [] w w'):MadeB w none 0 0 [] w':=⟨Sl.nil _,by simp [blk],h⟩
set_option maxHeartbeats 1000000 in
theorem frame_call (w:World) (ao:Option Addr) (n c:Nat) (l:List Int) (hs:Sl w ao n c l) (ho:Oct l) :
 Calls Tryz.prog 22 #[.slice ao n c] w fun r w'=>∃ a n' c',r=.returned (.tuple #[.slice a n' c',.int .i64 (frameE l).2])∧MadeB w a n' c' (frameE l).1 w':=by
 have hn:=hs.1
 subst hn
 have hm:=hs.2.2.1
 have hc:=hs.2.1
 unfold maxLen at hm
 have HS:Hid (Sl w ao l.length c l):=hs
 clear hs
 by_cases hbig:1048576 < l.length
 ·have hb2:(1048576:Int) < (l.length:Int):=by omega
  have HE:Hid (frameE l=([],3)):=by show frameE l=([],3);unfold frameE;rw [if_neg (by omega)]
  go_enter Tryz.func22,Tryz.ntmps22
  go_wp2
  go_ret2
  rw [HE.out]
  exact ⟨none,0,0,rfl,MadeB.nil (Kept.refl _ _)⟩
 ·have hb2:¬ (1048576:Int) < (l.length:Int):=by omega
  have HE:Hid (frameE l=(frameOf l,0)):=by show frameE l=(frameOf l,0);unfold frameE;rw [if_pos (by omega)]
  go_enter Tryz.func22,Tryz.ntmps22
  go_wp2_with fail
  refine (appendHigh_any _ _ [] _ 4 (World.ownsRow_nil _ _ _ _) (by omega) (by simp)).mono ?_
  rintro _ w1 ⟨v1,rfl,hO1,hf1,hk1⟩
  simp only [List.nil_append] at hO1
  obtain ⟨a1,n1,c1,rfl,hs1,hb1⟩:=Sl.of_owns' hO1
  have hk1':Kept [] w w1:=hk1
  clear hk1
  go_wp2_with fail
  refine (appendSummed_any _ _ [] _ _ _ _ (World.ownsRow_nil _ _ _ _) hs1 (hiB_oct _ _) (by intro _ k _ h;cases h) (by simp) (by have:=hs1.1;rw [hiB_length] at this;omega)).mono ?_
  rintro _ w2 ⟨v2,rfl,hO2,hf2,hk2⟩
  have hk2':Kept [] w1 w2:=hk2
  simp only [List.nil_append] at hO2
  have hs2:Sl w2 ao l.length c l:=Sl.kept (hk1'.trans hk2' (by simp)) HS.out (by simp)
  clear hk2
  have hdis:0 < l.length→∀ k∈blk ao,v2.ownBlock≠some k:=by
   intro h0 k hk h
   have h2:=HS.out.lt h0 k hk
   rcases hf2 k h with h3 | h3
   ·cases h3
   ·have:=hk1'.size;omega
  go_wp2_with fail
  refine (appendSummed_any _ _ _ _ _ _ _ hO2 hs2 ho hdis (by simp [hiB_length]) (by omega)).mono ?_
  rintro _ w3 ⟨v3,rfl,hO3,hf3,hk3⟩
  obtain ⟨a3,n3,c3,rfl,hs3,hb3⟩:=Sl.of_owns' hO3
  have hK2:Kept [] w w2:=hk1'.trans hk2' (by simp)
  have hfresh:∀ k,v2.ownBlock=some k→w.heap.size≤k:=by
   intro k hk
   rcases hf2 k hk with h3 | h3
   ·cases h3
   ·have:=hk1'.size;omega
  have hM:MadeB w a3 n3 c3 (frameOf l) w3:=by
   refine ⟨hs3,fun k hk=>?_,hK2.trans hk3 (fun i hi=>.inr (hfresh i (by simpa using hi)))⟩
   have h4:=hb3 k hk
   refine ⟨?_,h4.2.1⟩
   rcases hf3 k h4.2.2 with h5 | h5
   ·exact hfresh k h5
   ·have:=hK2.size;omega
  clear hO1 hO2 hO3 hs1 hs3 hb3 hf3 hk3
  have HM:Hid (MadeB w a3 n3 c3 (frameOf l) w3):=hM
  clear hM
  go_wp2
  go_ret2
  rw [HE.out]
  exact ⟨a3,n3,c3,rfl,HM.out⟩
theorem unframe_short (l:List Int) (h:l.length < 8):unframe l=([],0,2):=by unfold unframe;rw [if_pos h]
theorem unframe_sum1 (l:List Int) (h:¬ l.length < 8) (h1:summed (l.take 8)=false):unframe l=([],0,5):=by unfold unframe;rw [if_neg h,if_pos h1]
theorem unframe_long (l:List Int) (h:¬ l.length < 8) (h1:¬ summed (l.take 8)=false) (h2:1048576 < rdHi (l.take 4)):unframe l=([],0,3):=by unfold unframe;rw [if_neg h,if_neg h1,if_pos h2]
theorem unframe_short2 (l:List Int) (h:¬ l.length < 8) (h1:¬ summed (l.take 8)=false) (h2:¬ 1048576 < rdHi (l.take 4)) (h3:(l.length:Int) < rdHi (l.take 4)+12):unframe l=([],0,2):=by
 unfold unframe;rw [if_neg h,if_neg h1,if_neg h2,if_pos h3]
theorem unframe_sum2 (l:List Int) (h:¬ l.length < 8) (h1:¬ summed (l.take 8)=false) (h2:¬ 1048576 < rdHi (l.take 4)) (h3:¬ (l.length:Int) < rdHi (l.take 4)+12)
 (h4:summed ((l.take ((rdHi (l.take 4)).toNat+12)).drop 8)=false):unframe l=([],0,5):=by
 unfold unframe;rw [if_neg h,if_neg h1,if_neg h2,if_neg h3,if_pos h4]
theorem unframe_ok (l:List Int) (h:¬ l.length < 8) (h1:¬ summed (l.take 8)=false) (h2:¬ 1048576 < rdHi (l.take 4)) (h3:¬ (l.length:Int) < rdHi (l.take 4)+12)
 (h4:¬ summed ((l.take ((rdHi (l.take 4)).toNat+12)).drop 8)=false):unframe l=((l.take (8+(rdHi (l.take 4)).toNat)).drop 8,rdHi (l.take 4)+12,0):=by
 unfold unframe;rw [if_neg h,if_neg h1,if_neg h2,if_neg h3,if_neg h4]
set_option maxRecDepth 100000 in
set_option maxHeartbeats 1000000 in
theorem unframe_call (w:World) (ao:Option Addr) (n c:Nat) (l:List Int) (hs:Sl w ao n c l) (ho:Oct l) :
 Calls Tryz.prog 23 #[.slice ao n c] w fun r w'=>∃ a n' c',r=.returned (.tuple #[.slice a n' c',.int .i64 (unframe l).2.1,.int .i64 (unframe l).2.2])∧MadeB w a n' c' (unframe l).1 w':=by
 have hn:=hs.1
 subst hn
 have hm:=hs.2.2.1
 have hc:=hs.2.1
 unfold maxLen at hm
 have HS:Hid (Sl w ao l.length c l):=hs
 clear hs
 by_cases h8:l.length < 8
 ·have h8':(l.length:Int) < 8:=by omega
  have HE:Hid (unframe l=([],0,2)):=unframe_short l h8
  go_enter Tryz.func23,Tryz.ntmps23
  go_wp2
  go_ret3
  rw [HE.out]
  exact ⟨none,0,0,rfl,MadeB.nil (Kept.refl _ _)⟩
 ·have h8':¬ (l.length:Int) < 8:=by omega
  have h8n:¬ l.length < 8:=h8
  have hs8:Sl w ao 8 c (l.take 8):=HS.out.take (by omega)
  have HS8:Hid (Sl w ao 8 c (l.take 8)):=hs8
  have hs4:Sl w ao 4 c (l.take 4):=HS.out.take (by omega)
  have HS4:Hid (Sl w ao 4 c (l.take 4)):=hs4
  clear hs8 hs4
  have hbd:=hiB4_rdHi (l.take 4) (by simp;omega) (ho.take 4)
  obtain ⟨X,hX⟩:∃ X,X=rdHi (l.take 4):=⟨_,rfl⟩
  rw [← hX] at hbd
  obtain ⟨hX0,hX1,_⟩:=hbd
  have HX:Hid (X=rdHi (l.take 4)):=hX
  clear hX h8
  go_enter Tryz.func23,Tryz.ntmps23
  go_wp2_with fail
  refine (isSummed_call _ _ _ _ _ HS8.out (ho.take 8) (by omega)).mono ?_
  rintro _ _ ⟨rfl,q1,rfl⟩
  cases hsum:summed (l.take 8) with
  | false =>
    have HE:Hid (unframe l=([],0,5)):=unframe_sum1 l h8n hsum
    go_wp2
    go_ret3
    rw [HE.out]
    exact ⟨none,0,0,rfl,MadeB.nil ((Kept.refl _ _).drewN _)⟩
  | true =>
    have hsum1:¬ summed (l.take 8)=false:=by rw [hsum];simp
    have HSU:Hid (¬ summed (l.take 8)=false):=hsum1
    clear hsum hsum1
    go_wp2_with fail
    refine (readHigh_call _ _ _ _ _ (HS4.out.drewN _) (ho.take 4)).mono ?_
    rintro _ _ ⟨rfl,rfl⟩
    rw [← HX.out]
    by_cases hbig:1048576 < X
    ·have HE:Hid (unframe l=([],0,3)):=unframe_long l h8n HSU.out (by rw [← HX.out];exact hbig)
     go_wp2
     go_ret3
     rw [HE.out]
     exact ⟨none,0,0,rfl,MadeB.nil ((Kept.refl _ _).drewN _)⟩
    ·by_cases hsh:(l.length:Int) < X+12
     ·have HE:Hid (unframe l=([],0,2)):=unframe_short2 l h8n HSU.out (by rw [← HX.out];exact hbig) (by rw [← HX.out];exact hsh)
      go_wp2
      go_ret3
      rw [HE.out]
      exact ⟨none,0,0,rfl,MadeB.nil ((Kept.refl _ _).drewN _)⟩
     ·have hc8:¬ c=8:=by omega
      have hle:(X+12).toNat≤l.length:=by omega
      have hle2:(8+X).toNat≤l.length:=by omega
      have HS2:Hid (Sl w (Option.map (fun x=>({ block:=x.block,off:=x.off+8 }:Addr)) ao) ((X+12).toNat - 8) (c - 8) ((l.take (X+12).toNat).drop 8)):=HS.out.cut (by omega) (by omega) hle
      have HS3:Hid (Sl w (Option.map (fun x=>({ block:=x.block,off:=x.off+8 }:Addr)) ao) ((8+X).toNat - 8) (c - 8) ((l.take (8+X).toNat).drop 8)):=HS.out.cut (by omega) (by omega) hle2
      have HT:Hid ((rdHi (l.take 4)).toNat+12=(X+12).toNat):=by show (rdHi (l.take 4)).toNat+12=(X+12).toNat;rw [← HX.out];omega
      have HT2:Hid (8+(rdHi (l.take 4)).toNat=(8+X).toNat):=by show 8+(rdHi (l.take 4)).toNat=(8+X).toNat;rw [← HX.out];omega
      clear hle hle2
      go_wp2_with fail
      refine (isSummed_call _ _ _ _ _ (HS2.out.drewN _) ((ho.take _).drop _) (by omega)).mono ?_
      rintro _ _ ⟨rfl,q2,rfl⟩
      cases hsum2:summed ((l.take (X+12).toNat).drop 8) with
      | false =>
        have HE:Hid (unframe l=([],0,5)):=unframe_sum2 l h8n HSU.out (by rw [← HX.out];omega) (by rw [← HX.out];omega) (by rw [HT.out];exact hsum2)
        clear hsum2
        go_wp2
        go_ret3
        rw [HE.out]
        exact ⟨none,0,0,rfl,MadeB.nil ((Kept.refl _ _).drewN _)⟩
      | true =>
        have HE:Hid (unframe l=((l.take (8+X).toNat).drop 8,X+12,0)):=by
         have:=unframe_ok l h8n HSU.out (by rw [← HX.out];omega) (by rw [← HX.out];omega) (by rw [HT.out,hsum2];simp)
         rw [HT2.out,← HX.out] at this
         exact this
        clear hsum2
        go_wp2_with fail
        refine (clone_any _ _ _ _ _ (HS3.out.drewN _) (by omega)).mono ?_
        rintro _ w3 ⟨a3,c3,rfl,hs3,hb3,hk3⟩
        have HM:Hid (MadeB w a3 ((8+X).toNat - 8) c3 ((l.take (8+X).toNat).drop 8) w3):=⟨hs3,hb3,((Kept.refl _ _).drewN _).trans hk3 (by simp)⟩
        clear hs3 hb3 hk3
        go_wp2
        go_ret3
        rw [HE.out]
        exact ⟨a3,_,c3,rfl,HM.out⟩
end Go.Proofs.YtakafmejllilnaaGreat
