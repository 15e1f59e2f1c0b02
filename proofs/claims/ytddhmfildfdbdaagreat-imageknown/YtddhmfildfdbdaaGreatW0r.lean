/-
  Texts of this claim that are laid as one: ImAwk, ImKnW, ImAgW.
-/
import Derived.Test.YtddhmfildfdbdaaGreatW12r
import Derived.Test.YtddhmfildfdbdaaGreatW4r
set_option maxHeartbeats 8000000
/-
 A new machine's bytes;awake;what Load comes to at bytes that are known.
-/
namespace Go.Proofs.YtddhmfildfdbdaaGreat
open Go.RowKit
theorem may3I:May [0,1,2]:=by decide
def exB:List Int:=[1,4,0,1,0,3,0,1,2,0,0]
def exPt:Pt:=⟨1,4,0,[⟨0,[0,1,2]⟩],[],[]⟩
theorem exB_oct:Oct exB:=by
 have h:∀ x∈exB,0≤x∧x < 256:=by decide
 exact h
theorem exB_is:iMa ([],0) 1 4 (newM [0,1,2])=(exB,0):=by decide +kernel
theorem ex_im:imR (exB,0)=(exPt,([],0)):=by rfl
theorem ex_im1:(imR (exB++[0],0)).2=([0],0):=by decide +kernel
theorem ex_im0:(imR ([],0)).2=([],2):=by decide +kernel
theorem ex_mk:mkP exPt=.ok (newM [0,1,2]):=by
 unfold mkP mkM exPt
 rw [if_neg (by simp),if_neg (not_not_intro (okL_new may3I)),if_neg (by simp),if_neg (not_not_intro ⟨by simp,ldOk_nil⟩)]
 show (if (0:Int) < 0∨(1099511627776:Int) < 0 then _ else _)=_
 rw [if_neg (by omega)]
 rfl
theorem pen_newI:Pen (newM [0,1,2])∧300*wtM (newM [0,1,2])≤1000000000:=by
 refine ⟨⟨by decide,by decide,fun x hx=>?_,fun x hx=>(by cases hx),fun x hx=>(by cases hx)⟩,by decide +kernel⟩
 simp [newM] at hx
 subst hx
 simp
theorem LoadQ.bad {w w':World}{l:List Int}{r:Ending}{e:Int}(h:LoadQ w l r w') (h1:(imR (l,0)).2.2=e) (he:e≠0):Kept [] w w'∧r=.returned (.tuple #[.pointer none,.int .i64 e]):=by
 obtain ⟨hk,⟨f,hf,hE,rfl⟩ | ⟨x,M,b,u,G,hi,_⟩⟩:=h
 ·refine ⟨hk,?_⟩
  rcases hE with ⟨_,h3⟩ | ⟨h2,_⟩ | ⟨h2,_⟩
  ·rw [h3,h1]
  ·exact absurd (h1.symm.trans h2) he
  ·exact absurd (h1.symm.trans h2) he
 ·rw [hi] at h1
  exact absurd h1.symm he
theorem LoadQ.long {w w':World}{l t:List Int}{r:Ending}(h:LoadQ w l r w') (h1:(imR (l,0)).2=(t,0)) (ht:t≠[]):Kept [] w w'∧r=.returned (.tuple #[.pointer none,.int .i64 3]):=by
 obtain ⟨hk,⟨f,hf,hE,rfl⟩ | ⟨x,M,b,u,G,hi,_⟩⟩:=h
 ·refine ⟨hk,?_⟩
  rcases hE with ⟨h2,_⟩ | ⟨_,_,h3⟩ | ⟨_,h3,_⟩
  ·rw [h1] at h2;exact absurd rfl h2
  ·rw [h3]
  ·rw [h1] at h3;exact absurd h3 ht
 ·rw [hi] at h1
  have h2:([]:List Int)=t:=congrArg Prod.fst h1
  exact absurd h2.symm ht
theorem LoadQ.ex {w w':World}{r:Ending}(h:LoadQ w exB r w'):Kept [] w w'∧∃ b u G,LiveM w w' G [] b u 1 4 (newM [0,1,2])∧r=.returned (.tuple #[.pointer (some ⟨b,0,none⟩),.int .i64 0]):=by
 obtain ⟨hk,⟨f,hf,hE,rfl⟩ | ⟨x,M,b,u,G,hi,hm,_,hL,_,_,_,rfl⟩⟩:=h
 ·exfalso
  rcases hE with ⟨h2,_⟩ | ⟨_,h2,_⟩ | ⟨_,_,h2 | ⟨M,h2,h3,_⟩⟩
  ·rw [ex_im] at h2;exact h2 rfl
  ·rw [ex_im] at h2;exact h2 rfl
  ·rw [ex_im] at h2
   have h4:mkP exPt=.error f:=h2
   rw [ex_mk] at h4;cases h4
  ·rw [ex_im] at h2 h3
   have h4:mkP exPt=.ok M:=h2
   rw [ex_mk] at h4
   cases h4
   exact h3 (congrArg Prod.fst exB_is)
 ·rw [ex_im] at hi
  have e:exPt=x:=congrArg Prod.fst hi
  subst e
  rw [ex_mk] at hm
  cases hm
  exact ⟨hk,b,u,G,hL,rfl⟩
set_option maxRecDepth 100000 in
theorem awakeI_call (w:World):Calls Tryz.prog 5 #[] w fun e w'=>e=.returned (.bool true)∧Kept [] w w':=by
 have hKa:Kept [] w (w.alloc (.cells #[.int .i64 0,.int .i64 1,.int .i64 2] 3)):=(Kept.refl _ _).alloc _
 have cN:=newM_call _ [] (by simp) _ 3 3 [0,1,2] (SlI.lit w [0,1,2] 3 #[.int .i64 0,.int .i64 1,.int .i64 2] 3 rfl rfl (by omega)) 1 4
 have HKa:=hide hKa
 clear hKa
 go_enter Tryz.func5,Tryz.ntmps5
 go_wp2_with fail
 refine cN.mono ?_
 clear cN
 rintro _ w1 (⟨_,b,p,F,rfl,hL⟩ | ⟨hn,_⟩)
 ·have HL:=hide (hL.elder HKa.out)
  have cS:=save_call hL pen_newI.1 pen_newI.2
  rw [show (iMa ([],0) 1 (((4:Int).toNat:Nat):Int) (newM [0,1,2])).1=exB from congrArg Prod.fst exB_is] at cS
  clear hL
  go_wp2_with fail
  refine cS.mono ?_
  clear cS
  rintro _ w2 ⟨sa,sc,rfl,hs2,hb2,hk2,_⟩
  have kA:Kept [] w2 (w2.alloc (.cells #[.int .u8 1,.int .u8 4,.int .u8 0,.int .u8 1,.int .u8 0,.int .u8 3,.int .u8 0,.int .u8 1,.int .u8 2,.int .u8 0,.int .u8 0] 5)):=(Kept.refl _ _).alloc _
  have hL2:Sl (w2.alloc (.cells #[.int .u8 1,.int .u8 4,.int .u8 0,.int .u8 1,.int .u8 0,.int .u8 3,.int .u8 0,.int .u8 1,.int .u8 2,.int .u8 0,.int .u8 0] 5)) (some ⟨w2.heap.size,0,none⟩) 11 11 exB:=Sl.lit rfl rfl (by decide)
  have cB:=bsame_call _ sa (some ⟨w2.heap.size,0,none⟩) 11 sc 11 11 exB exB (Sl.kept kA hs2 (by simp)) hL2
  rw [decide_eq_true rfl] at cB
  have HK2:=hide ((HL.out.keeps.trans hk2 (by simp)).trans kA (by simp))
  clear hs2 hb2 hk2 kA hL2
  go_wp2_with fail
  refine cB.mono ?_
  clear cB
  rintro _ w3 ⟨rfl,hk3⟩
  have HK3:=hide (HK2.out.trans hk3 (by simp))
  clear hk3
  go_wp2_with fail
  go_ret
  exact ⟨rfl,HK3.out⟩
 ·exact absurd ⟨may3I,by omega,by omega,by omega,by omega⟩ hn
set_option maxRecDepth 100000 in
theorem iknown_walk (w:World):Calls Tryz.prog 3 #[] w fun e w'=>e=.returned (.bool true)∧Kept [] w w':=by
 go_enter Tryz.func3,Tryz.ntmps3
 go_wp2_with fail
 refine (awakeI_call w).mono ?_
 rintro _ w1 ⟨rfl,hk1⟩
 have HK1:=hide hk1
 clear hk1
 go_upto_region 4 with fail
 obtain ⟨W,hW⟩:∃ W,W=w1.alloc (.cells #[.int .u8 1,.int .u8 4,.int .u8 0,.int .u8 1,.int .u8 0,.int .u8 3,.int .u8 0,.int .u8 1,.int .u8 2,.int .u8 0,.int .u8 0] 5):=⟨_,rfl⟩
 have kA:Kept [] w1 W:=by rw [hW];exact (Kept.refl _ _).alloc _
 have hB:Sl W (some ⟨w1.heap.size,0,none⟩) 11 11 exB:=by rw [hW];exact Sl.lit rfl rfl (by decide)
 rw [← hW]
 have cL:=imload_call W _ 11 11 exB hB exB_oct (by decide)
 have HB:=hide hB
 have HKA:=hide (HK1.out.trans kA (by simp))
 clear hW kA hB HK1
 go_wp2_with fail
 refine cL.mono ?_
 clear cL
 rintro r w2 hQ
 obtain ⟨hk2,b,u,G,hL,rfl⟩:=hQ.ex
 have HL:=hide hL
 have HK2:=hide (HKA.out.trans hk2 (by simp))
 have hB2:=Sl.kept hk2 HB.out (by simp)
 have HB2:=hide hB2
 clear hQ hL hk2
 go_wp2_with fail
 refine (copy_call w2 _ 11 11 exB hB2 (by omega)).mono ?_
 rintro _ w3 ⟨v3,rfl,hO3,hf3,hk3⟩
 obtain ⟨W3,hW3⟩:∃ W3,W3=w3.alloc (.cells #[.int .u8 0] 5):=⟨_,rfl⟩
 have kB:Kept [] w3 W3:=by rw [hW3];exact (Kept.refl _ _).alloc _
 have HO3:Hid (Own W3 v3 exB):=kB.ownsRow hO3 (by simp)
 have HS3:Hid (Sl W3 (some ⟨w3.heap.size,0,none⟩) 1 1 [0]):=by rw [hW3];exact Sl.lit rfl rfl (by decide)
 have HK3:=hide ((HK2.out.trans hk3 (by simp)).trans kB (by simp))
 have HF3:Hid (∀ k,v3.ownBlock=some k→w2.heap.size≤k):=hf3
 have HZ3:Hid (Kept [] w2 W3):=hk3.trans kB (by simp)
 clear hO3 hf3 hk3 hB2 kB
 go_wp2_with (at_builtin;(try rw [← hW3]);refine wp_app rfl _ _ rfl v3 exB rfl HO3.out (some ⟨w3.heap.size,0,none⟩) 1 1 [0] rfl HS3.out (by decide) ?b1)
 case b1 =>
  intro v4 w4 hO4 hF4 hk4
  have hk4':Kept v3.ownBlock.toList W3 w4:=by rw [hW3];exact hk4
  have HKf:Hid (Kept [] w2 w4):=HZ3.out.trans hk4' (fun i hi=>.inr (HF3.out i (by simpa using hi)))
  obtain ⟨a4,c4,rfl,hs4,_⟩:=Sl.of_owns hO4
  have HS4:=hide hs4
  clear hO4 hF4 hk4 hk4' hs4
  have cL:=imload_call w4 a4 12 c4 (exB++[0]) HS4.out (fun x hx=>by
   rcases List.mem_append.1 hx with h | h
   ·exact exB_oct x h
   ·simp at h;omega) (by decide)
  go_wp2_with fail
  refine cL.mono ?_
  clear cL
  rintro r w5 hQ
  obtain ⟨hk5,rfl⟩:=hQ.long ex_im1 (by simp)
  have HL5:=hide (HL.out.kept (HKf.out.trans hk5 (by simp)))
  have HK5:=hide ((HK2.out.trans HKf.out (by simp)).trans hk5 (by simp))
  have cL:=imload_call w5 none 0 0 [] (Sl.nil _) (fun x hx=>by cases hx) (by decide)
  clear hQ hk5 HL
  go_wp2_with fail
  refine cL.mono ?_
  clear cL
  rintro r w6 hQ
  obtain ⟨hk6,rfl⟩:=hQ.bad (congrArg Prod.snd ex_im0) (by decide)
  have HL6:=hide (HL5.out.kept hk6)
  have HK6:=hide (HK5.out.trans hk6 (by simp))
  have cA:=mApplied_call HL6.out
  have cS:=save_nil w6
  clear hQ hk6 HL5
  go_wp2_with fail
  refine cA.mono ?_
  clear cA
  rintro _ Wx ⟨rfl,hWx⟩
  obtain rfl:=hWx.symm
  clear hWx
  have e0:(newM [0,1,2]).a=0:=rfl
  rw [e0]
  go_wp2_with fail
  refine cS.mono ?_
  clear cS
  rintro _ w7 ⟨a7,c7,rfl,_,_,hk7,_⟩
  have HK7:=hide (HK6.out.trans hk7 (by simp))
  clear hk7
  go_wp2_with fail
  go_ret
  exact ⟨rfl,HK7.out⟩
theorem again_long {l:List Int}{x:Pt}(ho:Oct l) (h:imR (l,0)=(x,([],0))):(imR (l++[0],0)).2=([0],0):=by
 obtain ⟨h1,h2⟩:=cdc_im.bwd l x [] ho h
 rw [List.append_nil] at h2
 rw [h2,cdc_im.fwd x [0] h1]
theorem again_short {l:List Int}{x:Pt}{k:Nat}(ho:Oct l) (h:imR (l,0)=(x,([],0))) (hk:k < l.length) {w w':World}{r:Ending}(hQ:LoadQ w (l.take k) r w'):Kept [] w w'∧∃ e:Int,e≠0∧r=.returned (.tuple #[.pointer none,.int .i64 e]):=by
 obtain ⟨hkk,⟨f,hf,_,rfl⟩ | ⟨y,M,b,u,G,hi,_⟩⟩:=hQ
 ·exact ⟨hkk,f,hf,rfl⟩
 ·exfalso
  obtain ⟨y1,y2⟩:=cdc_im.bwd _ y [] (ho.take k) hi
  rw [List.append_nil] at y2
  have h2:=cdc_im.fwd y (l.drop k) y1
  rw [← y2,List.take_append_drop,h] at h2
  have e:([]:List Int)=l.drop k:=congrArg (fun q=>q.2.1) h2
  have:=congrArg List.length e
  rw [List.length_drop,List.length_nil] at this
  omega
theorem again_at (x:Int) (n:Nat) (h0:0 < n) (hn:n≤20000):∃ k:Nat,k < n∧(wrap64 (x.tmod ↑n+↑n)).tmod ↑n=(k:Int):=by
 have h1:=Int.tmod_lt_of_pos x (b:=(n:Int)) (by omega)
 have h2:=Int.lt_tmod_of_pos x (b:=(n:Int)) (by omega)
 generalize x.tmod ↑n=t at *
 rw [IntWalk.wrap64_in _ (by omega),Int.tmod_eq_emod_of_nonneg (by omega)]
 have h3:=Int.emod_nonneg (t+↑n) (b:=(n:Int)) (by omega)
 have h4:=Int.emod_lt_of_pos (t+↑n) (b:=(n:Int)) (by omega)
 exact ⟨((t+↑n) % ↑n).toNat,by omega,by omega⟩
theorem im_some {x:Pt}:imR ([],0)≠(x,([],0)):=fun h=>by
 have h1:=congrArg (fun q=>q.2.2) h
 have h2:=congrArg Prod.snd ex_im0
 rw [show (imR ([],0)).2.2=2 from h2] at h1
 exact absurd (show (2:Int)=0 from h1) (by decide)
set_option maxRecDepth 100000 in
theorem iagain_walk (w:World) (ao:Option Addr) (n c:Nat) (l:List Int) (hs:Sl w ao n c l) (ho:Oct l) (x0:Int):Calls Tryz.prog 4 #[.slice ao n c,.int .i64 x0] w fun e w'=>e=.returned (.bool true)∧Kept [] w w':=by
 have HS:=hide hs
 have HO:=hide ho
 have HLn:=hide hs.1
 have hcn:=hs.2.1
 have hcm:=hs.2.2.1
 unfold maxLen at hcm
 clear hs ho
 go_enter Tryz.func4,Tryz.ntmps4
 go_wp2_with fail
 refine (awakeI_call w).mono ?_
 rintro _ w1 ⟨rfl,hk1⟩
 have HS1:=hide (Sl.kept hk1 HS.out (by simp))
 have HK1:=hide hk1
 clear hk1
 by_cases hn:n≤20000
 ·have cL:=imload_call w1 ao n c l HS1.out HO.out (by have:=HLn.out;omega)
  go_wp2_with fail
  refine cL.mono ?_
  clear cL
  rintro r w2 ⟨hk2,⟨f,hf,hE,rfl⟩ | ⟨x,M,b,u,G,hi,hm,hb,hL,hP1,hP2,hP3,rfl⟩⟩
  ·have hfb:(f != 0)=true:=by simp [hf]
   have HK2:=hide (HK1.out.trans hk2 (by simp))
   clear hE hk2 hf
   go_wp2_with fail
   go_ret
   exact ⟨rfl,HK2.out⟩
  ·have HK2:=hide (HK1.out.trans hk2 (by simp))
   have hs2:=Sl.kept hk2 HS1.out (by simp)
   have HS2:=hide hs2
   have HI:=hide hi
   have HB:=hide hb
   have HL:=hide hL
   have HP1:=hide hP1
   have HP2:=hide hP2
   have HP3:=hide hP3
   have hn0:0 < n:=by
    rcases Nat.eq_zero_or_pos n with h | h
    ·have h1:=HLn.out
     rw [h] at h1
     have h2:=List.eq_nil_of_length_eq_zero h1
     rw [h2] at hi
     exact absurd hi im_some
    ·exact h
   clear hk2 hi hm hb hL hP1 hP2 hP3
   go_wp2_with fail
   refine (copy_call w2 ao n c l hs2 (by omega)).mono ?_
   rintro _ w3 ⟨v3,rfl,hO3,hf3,hk3⟩
   obtain ⟨W3,hW3⟩:∃ W3,W3=w3.alloc (.cells #[.int .u8 0] 5):=⟨_,rfl⟩
   have kB:Kept [] w3 W3:=by rw [hW3];exact (Kept.refl _ _).alloc _
   have HO3:Hid (Own W3 v3 l):=kB.ownsRow hO3 (by simp)
   have HS3:Hid (Sl W3 (some ⟨w3.heap.size,0,none⟩) 1 1 [0]):=by rw [hW3];exact Sl.lit rfl rfl (by decide)
   have HF3:Hid (∀ k,v3.ownBlock=some k→w2.heap.size≤k):=hf3
   have HZ3:Hid (Kept [] w2 W3):=hk3.trans kB (by simp)
   clear hO3 hf3 hk3 kB hs2
   go_wp2_with (at_builtin;(try rw [← hW3]);refine wp_app rfl _ _ rfl v3 l rfl HO3.out (some ⟨w3.heap.size,0,none⟩) 1 1 [0] rfl HS3.out (by have:=HLn.out;omega) ?b1)
   case b1 =>
    intro v4 w4 hO4 hF4 hk4
    have hk4':Kept v3.ownBlock.toList W3 w4:=by rw [hW3];exact hk4
    have HKf:Hid (Kept [] w2 w4):=HZ3.out.trans hk4' (fun i hi=>.inr (HF3.out i (by simpa using hi)))
    obtain ⟨a4,c4,rfl,hs4,_⟩:=Sl.of_owns hO4
    have cL:=imload_call w4 a4 _ c4 (l++[0]) hs4 (fun x hx=>by
     rcases List.mem_append.1 hx with h | h
     ·exact HO.out x h
     ·simp at h;omega) (by have:=HLn.out;simp;omega)
    obtain ⟨n4,hn4⟩:∃ n4,n4=(l++[0]).length:=⟨_,rfl⟩
    rw [← hn4] at cL ⊢
    clear hO4 hF4 hk4 hk4' hs4 hn4
    go_wp2_with fail
    refine cL.mono ?_
    clear cL
    rintro r w5 hQ
    obtain ⟨hk5,rfl⟩:=hQ.long (again_long HO.out HI.out) (by simp)
    have HK5:=hide (HKf.out.trans hk5 (by simp))
    have hs5:=Sl.kept HK5.out HS2.out (by simp)
    clear hQ hk5 HO3 HS3 HF3 HZ3
    obtain ⟨k,hkn,hT⟩:=again_at x0 n hn0 hn
    have hb0:0≤(wrap64 (x0.tmod ↑n+↑n)).tmod ↑n:=by omega
    have hb1:(wrap64 (x0.tmod ↑n+↑n)).tmod ↑n≤(c:Int):=by omega
    have HT:=hide hT
    have cL:=imload_call w5 ao k c (l.take k) (hs5.take (by omega)) (HO.out.take k) (by have:=HLn.out;rw [List.length_take];omega)
    clear hT hs5
    go_wp2_with fail
    rw [HT.out,Int.toNat_natCast]
    clear hb0 hb1
    refine cL.mono ?_
    clear cL
    rintro r w6 hQ
    obtain ⟨hk6,e6,he6,rfl⟩:=again_short HO.out HI.out (by have:=HLn.out;omega) hQ
    have heb:(e6 != 0)=true:=by simp [he6]
    have HK6:=hide (HK5.out.trans hk6 (by simp))
    have HL6:=hide (HL.out.kept HK6.out)
    have cS:=save_call HL6.out HP1.out HP2.out
    rw [HP3.out,HB.out] at cS
    clear hQ hk6 he6 HL
    go_wp2_with fail
    refine cS.mono ?_
    clear cS
    rintro _ w7 ⟨sa,sc,rfl,hs7,hb7,hk7,_⟩
    have HK7:=hide (HK6.out.trans hk7 (by simp))
    have cB:=bsame_call w7 sa ao l.length sc n c l l hs7 (Sl.kept HK7.out HS2.out (by simp))
    rw [decide_eq_true rfl] at cB
    clear hs7 hb7 hk7
    go_wp2_with fail
    refine cB.mono ?_
    clear cB
    rintro _ w8 ⟨rfl,hk8⟩
    have HK8:=hide ((HK2.out.trans HK7.out (by simp)).trans hk8 (by simp))
    clear hk8
    go_wp2_with fail
    go_ret
    exact ⟨rfl,HK8.out⟩
 ·go_wp2_with fail
  go_ret
  exact ⟨rfl,HK1.out⟩
end Go.Proofs.YtddhmfildfdbdaaGreat
