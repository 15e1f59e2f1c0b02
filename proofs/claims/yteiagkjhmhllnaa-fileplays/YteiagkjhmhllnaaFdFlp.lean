/-
  The document's disk: Flip. (Written by mk/mkdflp.py.)
-/
import Derived.Test.YteiagkjhmhllnaaFdSyn
namespace Go.Proofs.Yteiagkjhmhllnaa
open Go.RowKit
theorem own_at {w:World}{ao:Option Addr}{n c:Nat}{l:List Int}(h:Own w (.slice ao n c) l) (hl:0 < l.length):∃ g,ao=some ⟨g,0,none⟩:=by
 obtain ⟨_,h2⟩:=h
 rcases h2 with ⟨_,hn⟩ | ⟨g,cap,cur,hv,_⟩
 ·omega
 ·simp only [Value.slice.injEq] at hv
  exact ⟨g,hv.1⟩
theorem AtD.setY {w:World}{O:List Nat}{p:Nat}{d d':Dk}{v:Value}{X:List Fm}(h:AtD w O p d v X) (i:Nat) (hi:i < X.length) (gb:Nat) (hgb:X[i].ao=some ⟨gb,0,none⟩) (j:Nat) (z:Int)
 (hL:d'.L=updF d.L i (fun x=>⟨x.n,X[i].b.set j z,x.l⟩)) (hs:d'.s=d.s) (hu:d'.f=d.f) (hd:d'.d=d.d) :
 AtD (w.setCell ⟨gb,j,none⟩ (.int .u8 z)) O p d' v (X.set i { X[i] with b:=X[i].b.set j z })∧Kept [gb] w (w.setCell ⟨gb,j,none⟩ (.int .u8 z))∧gb∈O:=by
 have hob:X[i].v.ownBlock=some gb:=by unfold Fm.v;rw [hgb];rfl
 obtain ⟨hnd,hbl⟩:=h.blk
 have hgm:=hbl gb (List.mem_flatMap.2 ⟨X[i],List.getElem_mem hi,by simp [hob]⟩)
 have k2:Kept [gb] w (w.setCell ⟨gb,j,none⟩ (.int .u8 z)):=(Kept.refl _ _).setCell (by simp) _
 have hpm:=blF_set X i hi X[i]
 rw [List.set_getElem_self] at hpm
 rw [hpm.nodup_iff,List.nodup_append] at hnd
 have hoth:∀ x∈X.take i++X.drop (i+1),x.v.ownBlock≠some gb:=fun x hx e=>hnd.2.2 gb (by simp [hob]) gb (List.mem_flatMap.2 ⟨x,hx,by simp [e]⟩) rfl
 have hiL:i < d.L.length:=by rw [← h.len];exact hi
 have hXs:X.set i { X[i] with b:=X[i].b.set j z }=X.take i++({ X[i] with b:=X[i].b.set j z } :: X.drop (i+1)):=by rw [List.set_eq_take_append_cons_drop,if_pos hi]
 have hX0:X=X.take i++(X[i] :: X.drop (i+1)):=by rw [List.getElem_cons_drop,List.take_append_drop]
 have hvl:(Fm.v { X[i] with b:=X[i].b.set j z })=X[i].v:=by unfold Fm.v;rw [List.length_set]
 have hfl:(X.set i { X[i] with b:=X[i].b.set j z }).flatMap rkO.c=X.flatMap rkO.c:=by
  rw [hXs]
  conv=>rhs;rw [hX0]
  rw [List.flatMap_append,List.flatMap_cons,List.flatMap_append,List.flatMap_cons]
  show _++(foC _++_)=_++(foC _++_)
  unfold foC
  rw [hvl]
 have hbF:blF (X.set i { X[i] with b:=X[i].b.set j z })=blF X:=by
  rw [hXs]
  conv=>rhs;rw [hX0]
  unfold blF
  rw [List.flatMap_append,List.flatMap_cons,List.flatMap_append,List.flatMap_cons,hvl]
 refine ⟨⟨?_,?_,fun x hx=>?_,?_,?_,h.n⟩,k2,hgm.2⟩
 ·rw [hs,hu,hd];exact h.h.kept k2 (by simp;exact fun e=>hgm.1 e.symm)
 ·unfold Rk.row
  rw [List.length_set,hfl]
  refine Rk.kept h.r k2 (fun q hq hm=>?_)
  simp at hm;subst hm
  exact (h.apart hq).2.2 X[i] (List.getElem_mem hi) hob
 ·rw [hXs] at hx
  rcases List.mem_append.1 hx with hx | hx
  ·exact k2.ownsRow (h.o x (List.mem_of_mem_take hx)) (fun q hq hm=>by simp at hm;subst hm;exact hoth x (List.mem_append_left _ hx) hq)
  ·rcases List.mem_cons.1 hx with rfl | hx
   ·rw [hvl]
    have h1:=h.o X[i] (List.getElem_mem hi)
    have h2:w.ownsRow 0 5 1 (.slice (some ⟨gb,0,none⟩) X[i].b.length X[i].c) X[i].b.length (X[i].b.map (Value.int .u8)):=by
     have:X[i].v=.slice (some ⟨gb,0,none⟩) X[i].b.length X[i].c:=by unfold Fm.v;rw [hgb]
     rw [← this];exact h1
    have h3:=(World.ownsRow.stored h2 j (.int .u8 z)).1
    have h4:X[i].v=.slice (some ⟨gb,0,none⟩) X[i].b.length X[i].c:=by unfold Fm.v;rw [hgb]
    rw [h4]
    unfold Own
    show World.ownsRow _ 0 _ 1 _ (X[i].b.set j z).length ((X[i].b.set j z).map (Value.int .u8))
    rw [List.length_set,List.map_set]
    exact h3
   ·exact k2.ownsRow (h.o x (List.mem_of_mem_drop hx)) (fun q hq hm=>by simp at hm;subst hm;exact hoth x (List.mem_append_right _ hx) hq)
 ·rw [List.map_set,h.L,hL,updF_at d.L i hiL,h.get hi hiL];rfl
 ·rw [h.b]
  unfold blD
  show p :: (_++blF X)=p :: (_++blF _)
  rw [hbF]
theorem flpF_no {n:List UInt8}{k:Int}{d:Dk}{i:Nat}(hi:findF n d.L=some i) (hiL:i < d.L.length) (hk:k < 0∨d.L[i].b.length≤k.toNat / 8):flpF n k d=(d,false):=by
 unfold flpF
 rw [hi]
 simp only
 rw [if_pos]
 rw [List.getD,List.getElem?_eq_getElem hiL]
 exact hk
theorem flpF_ok {n:List UInt8}{k:Int}{d:Dk}{i:Nat}(hi:findF n d.L=some i) (hiL:i < d.L.length) (hk:¬ (k < 0∨d.L[i].b.length≤k.toNat / 8)):flpF n k d=(⟨updF d.L i (fun x=>⟨x.n,flipB x.b k.toNat,x.l⟩),d.s,d.f,d.d⟩,true):=by
 unfold flpF
 rw [hi]
 simp only
 rw [if_neg]
 rw [List.getD,List.getElem?_eq_getElem hiL]
 exact hk
set_option linter.unusedSimpArgs false in
set_option maxHeartbeats 8000000 in
set_option maxRecDepth 100000 in
theorem dflpF_call {w:World}{O:List Nat}{p:Nat}{d:Dk}{v:Value}{X:List Fm}(h:AtD w O p d v X) (hb:BdD d) (n:List UInt8) (k:Int) (hk64:-9223372036854775808≤k∧k < 9223372036854775808) :
 Calls Try.prog 28 #[.pointer (some ⟨p,0,none⟩),.string (str n),.int .i64 k] w fun e w'=>e=.returned (.bool (flpF n k d).2)∧FdP p w O (flpF n k d).1 w':=by
 have HH:=hide h
 have hXl:X.length≤10000000:=by rw [h.len];exact hb.n
 have cF:=hide (dfindF_call h (by have:=hb.n;omega) n)
 cases hF:findF n d.L with
 | none =>
   have HE:Hid (flpF n k d=(d,false)):=by show _=_;unfold flpF;rw [hF]
   rw [hF] at cF
   clear h hb hF
   go_enter Try.func28,Try.ntmps28
   go_wp2_with (go_at_call 49;refine cF.out.mono ?_;clear cF;rintro _ w1 ⟨rfl,hw1⟩;obtain rfl:=hw1.symm;simp only [plF])
   go_ret
   rw [HE.out]
   exact ⟨rfl,HH.out.p (Kept.refl _ _) (fun k hk=>.inl hk)⟩
 | some i =>
 rw [hF] at cF
 have hiL:i < d.L.length:=by obtain ⟨h1,_⟩:=findF_lt hF;exact h1
 have hiX:i < X.length:=by rw [h.len];exact hiL
 have hii:¬ (i:Int) < 0:=by omega
 have hiX':(i:Int) < X.length:=by omega
 rcases Rk.shape2 h.r with ⟨_,e6⟩ | ⟨g,c,hv,hc,hm,hel⟩
 ·subst e6;simp at hiX
 subst hv
 unfold maxLen at hm
 have hLe:d.L[i]=X[i].fl:=h.get hiX hiL
 have c0:=h.h.cell 0 rfl
 have e1:w.cell? ⟨g,i*3+1,none⟩=some (.slice X[i].ao X[i].b.length X[i].c):=hel i hiX 1 _ rfl
 by_cases hk0:k < 0
 ·have HE:=hide (flpF_no hF hiL (.inl hk0))
  clear h hb hF hiL hel hLe e1
  go_enter Try.func28,Try.ntmps28
  go_upto_region 2 with (go_at_call 49;refine cF.out.mono ?_;clear cF;rintro _ w1 ⟨rfl,hw1⟩;obtain rfl:=hw1.symm;simp only [plF])
  go_wp2_with fail
  go_ret
  rw [HE.out]
  exact ⟨rfl,HH.out.p (Kept.refl _ _) (fun k hk=>.inl hk)⟩
 obtain ⟨kk,rfl⟩:∃ kk:Nat,k=kk:=Int.eq_ofNat_of_zero_le (by omega)
 have hkn:¬ (kk:Int) < 0:=by omega
 have hyl:X[i].b.length≤10000000000:=by have:=hb.b d.L[i] (List.getElem_mem hiL);rw [hLe] at this;exact this
 by_cases hk1:X[i].b.length≤kk / 8
 ·have HE:=hide (flpF_no (k:=kk) hF hiL (.inr (by rw [hLe];show X[i].b.length≤(kk:Int).toNat / 8;rw [Int.toNat_natCast];exact hk1)))
  generalize X[i].b.length=bl at e1 hk1
  have hk2:(bl:Int)≤((kk / 8:Nat):Int):=by omega
  have hk3:(bl:Int)≤(kk:Int) / 8:=by omega
  have htd:(kk:Int).tdiv 8=(kk:Int) / 8:=Int.tdiv_eq_ediv_of_nonneg (by omega)
  clear h hb hF hiL hel hLe
  go_enter Try.func28,Try.ntmps28
  go_upto_region 2 with (go_at_call 49;refine cF.out.mono ?_;clear cF;rintro _ w1 ⟨rfl,hw1⟩;obtain rfl:=hw1.symm;simp only [plF])
  go_wp2_with fail
  go_ret
  rw [HE.out]
  exact ⟨rfl,HH.out.p (Kept.refl _ _) (fun k hk=>.inl hk)⟩
 have HE:=hide (flpF_ok (k:=kk) hF hiL (by rw [hLe];show ¬ ((kk:Int) < 0∨X[i].b.length≤(kk:Int).toNat / 8);rw [Int.toNat_natCast];omega))
 rw [Int.toNat_natCast] at HE
 have hjl:kk / 8 < X[i].b.length:=by omega
 have hon:=h.o X[i] (List.getElem_mem hiX)
 obtain ⟨gb,hgb⟩:=own_at hon (by omega)
 have hsl:=Fm.sl hon
 obtain ⟨b2,o2,eb,hby⟩:=hsl.some (by omega)
 rw [hgb] at eb
 simp only [Option.some.injEq,Addr.mk.injEq,and_true] at eb
 obtain ⟨rfl,rfl⟩:=eb
 have hcc:X[i].b.length≤X[i].c:=hsl.2.1
 have y0:=hby (kk / 8) hjl
 rw [Nat.zero_add] at y0
 obtain ⟨x,hx⟩:∃ x,x=X[i].b.getD (kk / 8) 0:=⟨_,rfl⟩
 rw [← hx] at y0
 have yz:w.frozen? ⟨gb,kk / 8,none⟩=false:=by
  have h2:Own w (.slice (some ⟨gb,0,none⟩) X[i].b.length X[i].c) X[i].b:=by rw [← hgb];exact hon
  exact World.ownsRow.frozenAt h2 _
 have HSY:=hide (h.setY (d':=⟨updF d.L i (fun x=>⟨x.n,flipB x.b kk,x.l⟩),d.s,d.f,d.d⟩) i hiX gb hgb (kk / 8) (bits .xor .u8 x (2 ^ (kk % 8) % 256)) (by
  show updF d.L i _=updF d.L i _
  rw [updF_at d.L i hiL,updF_at d.L i hiL,hLe,hx];rfl) rfl rfl rfl)
 rw [hgb] at e1
 generalize X[i].b.length=bl at e1 hk1 hjl hyl hcc
 generalize X[i].c=cc at e1 hcc
 have hk3:¬ (bl:Int)≤(kk:Int) / 8:=by omega
 have hk4:(kk:Int) / 8 < bl:=by omega
 have hk5:0≤(kk:Int) / 8:=by omega
 have htn:((kk:Int) / 8).toNat=kk / 8:=by omega
 have htd:(kk:Int).tdiv 8=(kk:Int) / 8:=Int.tdiv_eq_ediv_of_nonneg (by omega)
 have htm:(kk:Int).tmod 8=(kk:Int) % 8:=Int.tmod_eq_emod_of_nonneg (by omega)
 clear h hb hF hiL hel hLe hon hsl hby hgb hx
 go_enter Try.func28,Try.ntmps28
 go_upto_region 2 with (go_at_call 49;refine cF.out.mono ?_;clear cF;rintro _ w1 ⟨rfl,hw1⟩;obtain rfl:=hw1.symm;simp only [plF])
 go_wp2_with fail
 go_ret
 rw [HE.out]
 obtain ⟨h1,h2,h3⟩:=HSY.out
 exact ⟨rfl,h1.p (h2.mono (by simp [h3])) (fun q hq=>.inl hq)⟩
end Go.Proofs.Yteiagkjhmhllnaa
