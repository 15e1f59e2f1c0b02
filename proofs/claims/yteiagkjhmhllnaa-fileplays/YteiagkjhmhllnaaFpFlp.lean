/-
  The program's disk: Flip. (Written by mk/mkfpflp.py.)
-/
import Derived.Test.YteiagkjhmhllnaaRegG
import Derived.Test.YteiagkjhmhllnaaFpTru
import Derived.Test.YteiagkjhmhllnaaFdFlp
namespace Go.Proofs.Yteiagkjhmhllnaa
open Go.RowKit
theorem shl8F (kk:Nat):IntKind.u8.wrap (2 ^ ((kk:Int) % 8).toNat)=2 ^ (kk % 8) % 256:=by
 have h1:((kk:Int) % 8).toNat=kk % 8:=by omega
 rw [h1]
 have h2:kk % 8 < 8:=Nat.mod_lt _ (by decide)
 generalize kk % 8=j at *
 match j,h2 with
 | 0,_=>rfl
 | 1,_=>rfl
 | 2,_=>rfl
 | 3,_=>rfl
 | 4,_=>rfl
 | 5,_=>rfl
 | 6,_=>rfl
 | 7,_=>rfl
section
variable {w : World} {g : Nat} {v : Value} {L : List Int} {l : Int}
set_option linter.unusedSimpArgs false in
set_option maxHeartbeats 8000000 in
set_option maxRecDepth 100000 in
theorem flpC_no (hB:Bx w g 61 [v,.int .i64 l]) (hO:Own w v L) (hl:L.length≤100000000000) (k:Int) (hk64:-9223372036854775808≤k∧k < 9223372036854775808) (hk:k < 0∨L.length≤k.toNat / 8) :
 Calls Try.prog 58 #[.pointer (some ⟨g,0,none⟩),.int .i64 k] w fun e w'=>e=.returned (.bool false)∧w'=w:=by
 obtain ⟨ao,c,rfl,hc1,hc2,_⟩:=mkown hO
 have c0:=hB.cell 0 rfl
 clear hB hO
 by_cases hk0:k < 0
 ·have hz:decide (k < 0)=true:=decide_eq_true hk0
  go_enter Try.func58,Try.ntmps58
  go_wp2_with fail
  go_ret
  exact ⟨rfl,rfl⟩
 ·obtain ⟨kk,rfl⟩:∃ kk:Nat,k=kk:=Int.eq_ofNat_of_zero_le (by omega)
  have hz:decide ((kk:Int) < 0)=false:=decide_eq_false hk0
  have hk1:L.length≤kk / 8:=by omega
  generalize L.length=bl at *
  have hk3:(bl:Int)≤(kk:Int) / 8:=by omega
  have htd:(kk:Int).tdiv 8=(kk:Int) / 8:=Int.tdiv_eq_ediv_of_nonneg (by omega)
  clear hk
  go_enter Try.func58,Try.ntmps58
  go_wp2_with fail
  go_ret
  exact ⟨rfl,rfl⟩
set_option linter.unusedSimpArgs false in
set_option maxHeartbeats 8000000 in
set_option maxRecDepth 100000 in
theorem flpC_ok (hB:Bx w g 61 [v,.int .i64 l]) (hO:Own w v L) (hl:L.length≤100000000000) (kk:Nat) (hk64:(kk:Int) < 9223372036854775808) (hk:kk / 8 < L.length) :
 Calls Try.prog 58 #[.pointer (some ⟨g,0,none⟩),.int .i64 kk] w fun e w'=>e=.returned (.bool true)∧Own w' v (flipB L kk)∧Kept v.ownBlock.toList w w':=by
 obtain ⟨ao,c,rfl,hc1,hc2,hsl⟩:=mkown hO
 obtain ⟨gb,rfl⟩:=own_at hO (by omega)
 have c0:=hB.cell 0 rfl
 obtain ⟨b2,o2,eb,hby⟩:=hsl.some (by omega)
 simp only [Option.some.injEq,Addr.mk.injEq,and_true] at eb
 obtain ⟨rfl,rfl⟩:=eb
 have y0:=hby (kk / 8) hk
 rw [Nat.zero_add] at y0
 obtain ⟨x,hx⟩:∃ x,x=L.getD (kk / 8) 0:=⟨_,rfl⟩
 rw [← hx] at y0
 have yz:w.frozen? ⟨gb,kk / 8,none⟩=false:=World.ownsRow.frozenAt hO _
 have HO:Hid (∀ W,W=w.setCell ⟨gb,kk / 8,none⟩ (.int .u8 (bits .xor .u8 x (2 ^ (kk % 8) % 256)))→Own W (.slice (some ⟨gb,0,none⟩) L.length c) (flipB L kk)):=fun W hW=>by
  rw [hW]
  have h3:=(World.ownsRow.stored (show w.ownsRow 0 5 1 (.slice (some ⟨gb,0,none⟩) L.length c) L.length (L.map (Value.int .u8)) from hO) (kk / 8) (.int .u8 (bits .xor .u8 x (2 ^ (kk % 8) % 256)))).1
  unfold Own flipB
  rw [← hx,List.length_set,List.map_set]
  exact h3
 have hs0:w.cell? ⟨g,0,none⟩=some (.slice (some ⟨gb,0,none⟩) L.length c):=c0
 have HSx:Hid (∀ u,(w.drew.setCell ⟨gb,kk / 8,none⟩ u).cell? ⟨g,0,none⟩=some (.slice (some ⟨gb,0,none⟩) L.length c)):=fun u=>by
  have hgg:gb≠g:=fun e=>by
   subst e
   have h1:=y0
   have h2:w.heap[gb]?=some (.cells #[.slice (some ⟨gb,0,none⟩) L.length c,.int .i64 l] 61 (0,0)):=hB
   obtain ⟨_,hr⟩:=hO
   rcases hr with ⟨hv,_⟩ | ⟨g5,cap,cur,hv,_,hh,_⟩
   ·cases hv
   ·simp only [Value.slice.injEq,Option.some.injEq,Addr.mk.injEq,and_true] at hv
    obtain ⟨rfl,_⟩:=hv
    rw [h2] at hh
    simp at hh
  exact Kept.cell (S:=[gb]) (((Kept.refl _ w).drew).setCell (by simp) u) c0 (by simp;exact fun e=>hgg e.symm)
 generalize L.length=bl at *
 have hk3:¬ (bl:Int)≤(kk:Int) / 8:=by omega
 have hk4:(kk:Int) / 8 < bl:=by omega
 have hk5:0≤(kk:Int) / 8:=by omega
 have htn:((kk:Int) / 8).toNat=kk / 8:=by omega
 have htd:(kk:Int).tdiv 8=(kk:Int) / 8:=Int.tdiv_eq_ediv_of_nonneg (by omega)
 have htm:(kk:Int).tmod 8=(kk:Int) % 8:=Int.tmod_eq_emod_of_nonneg (by omega)
 have hz:decide ((kk:Int) < 0)=false:=decide_eq_false (by omega)
 have hw8:IntKind.i64.wrap ((kk:Int) / 8)=(kk:Int) / 8:=IntWalk.i64_in _ (by omega)
 clear hB hO hsl hby hx
 go_enter Try.func58,Try.ntmps58
 go_upto_region 3 with fail
 refine wp_region_held_drew (S:=fun w9=>w9.cell? ⟨g,0,none⟩=some (.slice (some ⟨gb,0,none⟩) bl c)) (by kernel_rfl) hs0 (fun hHeld=>?_)
 try simp only [List.append_eq,List.cons_append,List.nil_append]
 refine tks [0,1,2,3,4,5,6,8,9,10] (by rfl) (by kernel_rfl) (fun _ _ _ _ _ h=>h) hHeld ?_
 iterate 10
  refine yk ?_ rfl (Or.inl ⟨by rfl,?_⟩) ?_
  rotate_left
  ·intro w9 hSw;have m0:=hSw;go_simp;(try with_reducible rfl)
  try simp only [sT,Act.put]
 refine yk0 ?_
 simp only [setK,sT]
 refine rd1 7 (by kernel_rfl) rfl (fun K0 hK0=>?_)
 go_simp
 refine hK0.out _ _ hs0 (fun hHeld=>?_)
 clear hK0 K0
 try simp only [sT,Act.put]
 refine tks [11,12] (by rfl) (by kernel_rfl) (fun _ _ _ _ _ h=>h) hHeld ?_
 iterate 2
  refine yk ?_ rfl (Or.inl ⟨by rfl,?_⟩) ?_
  rotate_left
  ·intro w9 hSw;have m0:=hSw;go_simp;(try with_reducible rfl)
  try simp only [sT,Act.put]
 refine yk0 ?_
 simp only [setK,sT]
 refine rd1 13 (by kernel_rfl) rfl (fun K0 hK0=>?_)
 go_simp
 refine hK0.out _ _ (HSx.out _) (fun hHeld=>?_)
 clear hK0 K0
 try simp only [sT,Act.put]
 refine wpAnyH_done (by kernel_rfl) ?_ _
 go_wp2_with fail
 go_ret
 rw [← shl8F] at HO
 exact ⟨rfl,((Kept.refl [] _).drew).ownsRow (HO.out _ rfl) (by simp),((Kept.refl _ w).setCell (by simp [Value.ownBlock]) _).drew⟩
end
set_option linter.unusedSimpArgs false in
set_option maxHeartbeats 8000000 in
set_option maxRecDepth 100000 in
theorem flpP_call {w:World}{O:List Nat}{p mb:Nat}{q:Int}{d:Dk}{X:List Pm}(h:AtP w O p mb q d X) (hb:BdD d) (n:List UInt8) (hn:n.length≤1000000) (k:Int) (hk64:-9223372036854775808≤k∧k < 9223372036854775808) :
 Calls Try.prog 27 #[.pointer (some ⟨p,0,none⟩),.string (str n),.int .i64 k] w fun e w'=>e=.returned (.bool (flpF n k d).2)∧FqP p w O (flpF n k d).1 w':=by
 have HH:=hide h
 have cL:=hide (lookF_call h n hn)
 cases hF:findF n d.L with
 | none =>
   have HE:Hid (flpF n k d=(d,false)):=by show _=_;unfold flpF;rw [hF]
   rw [hF] at cL
   clear h hb
   go_enter Try.func27,Try.ntmps27
   go_wp2_with (go_at_call 45;refine cL.out.mono ?_;clear cL;rintro _ w1 ⟨rfl,hw1⟩;obtain rfl:=hw1.symm;unfold plP)
   go_ret
   rw [HE.out]
   exact ⟨rfl,FqP.same HH.out (Kept.refl _ _)⟩
 | some i =>
   obtain ⟨hi,hiL,_,he⟩:=h.got hF
   have hx:X[i]∈X:=List.getElem_mem hi
   have hbl:X[i].b.length≤10000000000:=by have:=hb.b d.L[i] (List.getElem_mem hiL);rw [he] at this;exact this
   rw [hF,plP_some hi] at cL
   by_cases hk:k < 0∨d.L[i].b.length≤k.toNat / 8
   ·have HE:=hide (flpF_no hF hiL hk)
    rw [he] at hk
    have cC:=hide (flpC_no (h.c _ hx) (h.o _ hx) (by omega) k hk64 hk)
    generalize X[i].k=g at *
    clear h hb hk
    go_enter Try.func27,Try.ntmps27
    go_wp2_with (first | (go_at_call 45;refine cL.out.mono ?_;clear cL;rintro _ w1 ⟨rfl,hw1⟩;obtain rfl:=hw1.symm) | (go_at_call 58;refine cC.out.mono ?_;clear cC;rintro _ w1 ⟨rfl,hw1⟩;obtain rfl:=hw1.symm))
    go_ret
    rw [HE.out]
    exact ⟨rfl,FqP.same HH.out (Kept.refl _ _)⟩
   ·have HE:=hide (flpF_ok hF hiL hk)
    obtain ⟨kk,rfl⟩:∃ kk:Nat,k=kk:=Int.eq_ofNat_of_zero_le (by omega)
    rw [Int.toNat_natCast] at HE hk
    rw [he] at hk
    have hcC:Calls Try.prog 58 #[.pointer (some ⟨X[i].k,0,none⟩),.int .i64 kk] w fun e w'=>e=.returned (.bool true)∧UpP w O p mb q ⟨updF d.L i (fun x=>⟨x.n,flipB x.b kk,x.l⟩),d.s,d.f,d.d⟩ w':=by
     refine (flpC_ok (h.c _ hx) (h.o _ hx) (by omega) kk (by omega) (by have:¬ (X[i].b.length≤kk / 8):=fun e=>hk (.inr e);omega)).mono ?_
     rintro _ w' ⟨rfl,h1,h2⟩
     refine ⟨rfl,h.up hi hiL _ X[i].v (flipB X[i].b kk) X[i].l (h2.mono (fun a ha=>.inl (pmB_v (by simpa using ha)))) ((h.c _ hx).kept h2 (fun e=>h.xb hx (by simpa using e))) h1 (fun _ hk=>.inl hk) (by rw [he];rfl) rfl⟩
    have cC:=hide hcC
    generalize X[i].k=g at *
    clear h hb hk hcC
    go_enter Try.func27,Try.ntmps27
    go_wp2_with (first | (go_at_call 45;refine cL.out.mono ?_;clear cL;rintro _ w1 ⟨rfl,hw1⟩;obtain rfl:=hw1.symm) | (go_at_call 58;refine cC.out.mono ?_;clear cC;rintro _ w1 ⟨rfl,hu⟩;have HU:=hide hu;clear hu))
    go_ret
    rw [HE.out]
    exact ⟨rfl,HU.out.fq⟩
end Go.Proofs.Yteiagkjhmhllnaa
