/-
  A file of the program's: clone, left, flip. (Written by mk/mkfpfil.py.)
-/
import Derived.Test.YteiagkjhmhllnaaRegG
import Derived.Test.YteiagkjhmhllnaaFpFil
namespace Go.Proofs.Yteiagkjhmhllnaa
open Go.RowKit
def NewF (w:World) (L:List Int) (m:Nat) (e:Ending) (w':World):Prop :=
 ∃ g a c,e=.returned (.pointer (some ⟨g,0,none⟩))∧Bx w' g 61 [.slice a L.length c,.int .i64 m]∧Own w' (.slice a L.length c) L∧w.heap.size≤g∧(∀ k,(Value.slice a L.length c).ownBlock=some k→w.heap.size≤k∧k≠g)∧Kept [] w w'
section
variable {w : World} {g : Nat} {v : Value} {L : List Int} {l : Nat}
set_option linter.unusedSimpArgs false in
set_option maxHeartbeats 8000000 in
set_option maxRecDepth 100000 in
theorem fcloneF_call (hB:Bx w g 61 [v,.int .i64 l]) (hO:Own w v L) (hl:L.length≤100000000000) :
 Calls Try.prog 61 #[.pointer (some ⟨g,0,none⟩)] w fun e w'=>NewF w L l e w':=by
 have c0:=hB.cell 0 rfl
 have c1:=hB.cell 1 rfl
 obtain ⟨ao,c,rfl,hc1,hc2,hsl⟩:=mkown hO
 have hs0:w.cell? ⟨g,0,none⟩=some (.slice ao L.length c)∧w.cell? ⟨g,1,none⟩=some (.int .i64 l):=⟨c0,c1⟩
 have HSx:Hid (∀ w9,Kept [] w w9→w9.cell? ⟨g,0,none⟩=some (.slice ao L.length c)∧w9.cell? ⟨g,1,none⟩=some (.int .i64 l)):=fun w9 k=>⟨k.cell c0 (by simp),k.cell c1 (by simp)⟩
 have cC:=hide (fun w9 (k:Kept [] w w9)=>bcloneF_call w9 ao L.length c L (Sl.kept k hsl (by simp)) hl)
 have HL:=hide hl
 generalize hn:L.length=n at *
 have HN:=hide hn
 clear hB hO hsl hn hl
 go_enter Try.func61,Try.ntmps61
 go_upto_region 1 with fail
 refine wp_region_held_drew (S:=fun w9=>w9.cell? ⟨g,0,none⟩=some (.slice ao n c)∧w9.cell? ⟨g,1,none⟩=some (.int .i64 l)) (by kernel_rfl) hs0 (fun hHeld=>?_)
 try simp only [List.append_eq,List.cons_append,List.nil_append]
 refine tks [0,1,2,3,5,6,7,8] (by rfl) (by kernel_rfl) (fun _ _ _ _ _ h=>h) hHeld ?_
 iterate 8
  refine yk ?_ rfl (Or.inl ⟨by rfl,?_⟩) ?_
  rotate_left
  ·intro w9 hSw;obtain ⟨m0,m1⟩:=hSw;go_simp;(try with_reducible rfl)
  try simp only [sT,Act.put]
 refine yk0 ?_
 simp only [setK,sT]
 refine rd1 4 (by kernel_rfl) rfl (fun K0 hK0=>?_)
 go_simp
 refine (cC.out _ (Kept.refl [] _).drew).mono ?_
 rintro _ w4 ⟨a1,k1,rfl,hO4,hf4,hk4⟩
 have hK4:Kept [] w w4:=(Kept.refl [] w).drew.trans hk4 (by simp)
 have HK4:=hide hK4
 have HO4:=hide hO4
 have HF4:Hid (∀ q,(Value.slice a1 n k1).ownBlock=some q→w.heap.size≤q∧q < w4.heap.size):=fun q hq=>⟨hf4 q hq,(World.ownsRow.lt hO4 q hq).2⟩
 have hs4:=HSx.out w4 hK4
 clear hO4 hf4 hk4 hK4
 go_wp2_with fail
 refine hK0.out _ _ hs4 (fun hHeld=>?_)
 clear hK0 K0 hs4
 try simp only [sT,Act.put]
 refine tks [9] (by rfl) (by kernel_rfl) (fun _ _ _ _ _ h=>h) hHeld ?_
 iterate 1
  refine yk ?_ rfl (Or.inl ⟨by rfl,?_⟩) ?_
  rotate_left
  ·intro w9 hSw;obtain ⟨m0,m1⟩:=hSw;go_simp;(try with_reducible rfl)
  try simp only [sT,Act.put]
 refine yk0 ?_
 simp only [setK,sT]
 refine rd1 10 (by kernel_rfl) rfl (fun K0 hK0=>?_)
 go_simp
 refine hK0.out _ _ (HSx.out _ (HK4.out.alloc _)) (fun hHeld=>?_)
 clear hK0 K0
 try simp only [sT,Act.put]
 refine tks [11] (by rfl) (by kernel_rfl) (fun _ _ _ _ _ h=>h) hHeld ?_
 iterate 1
  refine yk ?_ rfl (Or.inl ⟨by rfl,?_⟩) ?_
  rotate_left
  ·intro w9 hSw;obtain ⟨m0,m1⟩:=hSw;go_simp;(try with_reducible rfl)
  try simp only [sT,Act.put]
 refine yk0 ?_
 simp only [setK,sT]
 refine wpAnyH_done (by kernel_rfl) ?_ _
 go_wp2_with fail
 go_ret
 have k2:Kept [] w4 (w4.alloc (.cells #[.slice a1 n k1,.int .i64 l] 61)):=(Kept.refl _ _).alloc _
 subst HN
 exact ⟨w4.heap.size,a1,k1,rfl,Bx.new w4 _ _,k2.ownsRow HO4.out (by simp),HK4.out.size,fun q hq=>by have:=HF4.out q hq;omega,HK4.out.trans k2 (by simp)⟩
set_option linter.unusedSimpArgs false in
set_option maxHeartbeats 8000000 in
set_option maxRecDepth 100000 in
theorem leftF_call (hB:Bx w g 61 [v,.int .i64 l]) (hO:Own w v L) (hlk:l≤L.length) (hl:L.length≤100000000000) (k:Int) (hk:-9223372036854775808≤k∧k < 9223372036854775808) (n:List UInt8) :
 Calls Try.prog 60 #[.pointer (some ⟨g,0,none⟩),.int .i64 k] w fun e w'=>NewF w (L.take (keptF ⟨n,L,l⟩ k)) (keptF ⟨n,L,l⟩ k) e w':=by
 have c0:=hB.cell 0 rfl
 have c1:=hB.cell 1 rfl
 obtain ⟨ao,c,rfl,hc1,hc2,hsl⟩:=mkown hO
 obtain ⟨mx,hmx⟩:∃ mx,mx=max k 0:=⟨_,rfl⟩
 obtain ⟨u,hu⟩:∃ u:Nat,(u:Int)=min mx ((L.length:Int) - l):=⟨(min mx ((L.length:Int) - l)).toNat,by omega⟩
 have hm1:∀ (ts:Array TypeId) (t:TypeId) (W:World),(Builtin.max_ ts t #[.int .i64 k,.int .i64 0]).run Try.prog W=.ok (.int .i64 mx) W:=fun ts t W=>by rw [max2F,hmx]
 have hm2:∀ (ts:Array TypeId) (t:TypeId) (W:World),(Builtin.min_ ts t #[.int .i64 mx,.int .i64 ((L.length:Int) - l)]).run Try.prog W=.ok (.int .i64 u) W:=fun ts t W=>by rw [min2F,hu]
 obtain ⟨m,hm⟩:∃ m,m=l+u:=⟨_,rfl⟩
 have hml:m≤L.length:=by omega
 have HE:Hid (keptF ⟨n,L,l⟩ k=m):=by
  show _=_
  unfold keptF
  simp only
  split <;> omega
 have HLm:Hid ((L.take m).length=m):=by show _=_;rw [List.length_take];omega
 have hsum:(l:Int)+(u:Int)=(m:Int):=by omega
 have hmc:(m:Int)≤c:=by omega
 have cC:=hide (fun w9 (k:Kept [] w w9)=>bcloneF_call w9 ao m c (L.take m) (Sl.kept k (hsl.take hml) (by simp)) (by omega))
 rw [HE.out]
 generalize L.length=ln at *
 clear hB hO hsl hmx hu hm
 go_enter Try.func60,Try.ntmps60
 go_upto_region 1 with fail
 go_quiet (fail)
 go_wp2_with (go_at_call 46;refine (cC.out _ ((Kept.refl [] _).drewN _)).mono ?_;clear cC;rintro _ w4 ⟨a1,k1,rfl,hO4,hf4,hk4⟩;have HK4:Hid (Kept [] w w4):=((Kept.refl [] w).drewN _).trans hk4 (by simp);have HO4:=hide hO4;have HF4:Hid (∀ q,(Value.slice a1 m k1).ownBlock=some q→w.heap.size≤q∧q < w4.heap.size):=fun q hq=>⟨hf4 q hq,(World.ownsRow.lt hO4 q hq).2⟩;clear hO4 hf4 hk4)
 go_ret
 have k2:Kept [] w4 (w4.alloc (.cells #[.slice a1 m k1,.int .i64 m] 61)):=(Kept.refl _ _).alloc _
 refine ⟨w4.heap.size,a1,k1,rfl,?_,?_,HK4.out.size,?_,HK4.out.trans k2 (by simp)⟩
 ·rw [HLm.out];exact Bx.new w4 _ _
 ·rw [HLm.out];exact k2.ownsRow HO4.out (by simp)
 ·rw [HLm.out];exact fun q hq=>by have:=HF4.out q hq;omega
end
end Go.Proofs.Yteiagkjhmhllnaa
