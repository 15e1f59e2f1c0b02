/-
  FileLasts: the walk. (Written by mk/mkfkla.py.)
-/
import Derived.Test.YteiagkjhmhllnaaRegG
import Derived.Test.YteiagkjhmhllnaaFkReA
namespace Go.Proofs.Yteiagkjhmhllnaa
open Go.RowKit
def ls1 (a:List Int):Dk:=⟨[⟨[120],a,0⟩],1,-1,false⟩
def ls2 (a:List Int):Dk:=⟨[⟨[120],a,a.length⟩],2,-1,false⟩
def ls3 (a b:List Int):Dk:=⟨[⟨[120],a++b,a.length⟩],3,-1,false⟩
def ls4 (c:List Int):Dk:=⟨[⟨[120],c,c.length⟩],0,-1,false⟩
theorem la_1 (a:List Int):appF [120] a ⟨[],0,-1,false⟩=(ls1 a,0):=rfl
theorem la_2 (a:List Int):synF [120] (ls1 a)=(ls2 a,0):=rfl
theorem la_3 (a b:List Int):appF [120] b (ls2 a)=(ls3 a b,0):=rfl
theorem la_4 (a b:List Int) (k:Int) (n:Nat) (hn:(n:Int)=min (max k 0) b.length):crsF [k] (ls3 a b)=ls4 (a++b.take n):=by
 have hm:keptF ⟨[120],a++b,a.length⟩ k=a.length+n:=by
  unfold keptF
  simp only [List.length_append]
  split <;> omega
 have hb:n≤b.length:=by omega
 have h1:(a++b).take (a.length+n)=a++b.take n:=by rw [List.take_append,List.take_of_length_le (by omega),Nat.add_sub_cancel_left]
 have h2:(a++b.take n).length=a.length+n:=by rw [List.length_append,List.length_take];omega
 show (⟨[⟨[120],(a++b).take (keptF ⟨[120],a++b,a.length⟩ k),keptF ⟨[120],a++b,a.length⟩ k⟩],0,-1,false⟩:Dk)=⟨[⟨[120],a++b.take n,(a++b.take n).length⟩],0,-1,false⟩
 rw [hm,h1,h2]
theorem la_5 (c:List Int):crsF [] (ls4 c)=ls4 c:=by
 show (⟨[⟨[120],c.take c.length,c.length⟩],0,-1,false⟩:Dk)=ls4 c
 rw [List.take_length];rfl
theorem la_6 (c:List Int):redF [120] (ls4 c)=some c:=rfl
theorem lb_1 {a:List Int}(h:a.length≤5000):BdD (ls1 a):=bdd_mk (by decide) (by decide) (by simp) (fun x hx=>by simp at hx;subst hx;simp;omega)
theorem lb_2 {a:List Int}(h:a.length≤5000):BdD (ls2 a):=bdd_mk (by decide) (by decide) (by simp) (fun x hx=>by simp at hx;subst hx;simp;omega)
theorem lb_3 {a b:List Int}(h:a.length≤5000) (h2:b.length≤5000):BdD (ls3 a b):=bdd_mk (by decide) (by decide) (by simp) (fun x hx=>by simp at hx;subst hx;simp;omega)
theorem lb_4 {c:List Int}(h:c.length≤10000):BdD (ls4 c):=bdd_mk (by decide) (by decide) (by simp) (fun x hx=>by simp at hx;subst hx;simp;omega)
set_option linter.unusedSimpArgs false in
set_option maxHeartbeats 8000000 in
set_option maxRecDepth 100000 in
theorem lasts_walk (w:World) (ao:Option Addr) (an ac:Nat) (a:List Int) (hA:Sl w ao an ac a) (_oa:Oct a) (bo:Option Addr) (bn bc:Nat) (b:List Int) (hB:Sl w bo bn bc b) (_ob:Oct b) (keep:Int) (hf:(Lit.int .i64 keep).wf=true) :
 Calls Try.prog 5 #[.slice ao an ac,.slice bo bn bc,.int .i64 keep] w fun e w'=>e=.returned (.bool true)∧Kept [] w w':=by
 have hw:=i64F hf
 obtain rfl:=hA.1
 obtain rfl:=hB.1
 have hca:=hA.2.2.1
 have hcb:=hB.2.2.1
 have hna:=hA.2.1
 have hnb:=hB.2.1
 unfold maxLen at hca hcb
 have HA:=hide hA
 have HB:=hide hB
 clear hA hB hf
 by_cases h1:5000 < a.length
 ·have h1':(5000:Int) < a.length:=by omega
  go_enter Try.func5,Try.ntmps5
  go_wp2_with (go_at_call 8;refine (awake12_call w).mono ?_;rintro _ w0 ⟨rfl,hk0⟩;have HK0:=hide hk0;clear hk0)
  go_ret
  exact ⟨rfl,HK0.out⟩
 by_cases h2:5000 < b.length
 ·have h1':¬ (5000:Int) < a.length:=by omega
  have h2':(5000:Int) < b.length:=by omega
  go_enter Try.func5,Try.ntmps5
  go_wp2_with (go_at_call 8;refine (awake12_call w).mono ?_;rintro _ w0 ⟨rfl,hk0⟩;have HK0:=hide hk0;clear hk0)
  go_ret
  exact ⟨rfl,HK0.out⟩
 have h1':¬ (5000:Int) < a.length:=by omega
 have h2':¬ (5000:Int) < b.length:=by omega
 have hoa:a.length≤5000:=by omega
 have hob:b.length≤5000:=by omega
 obtain ⟨mx,hmx⟩:∃ mx,mx=max keep 0:=⟨_,rfl⟩
 obtain ⟨n,hn⟩:∃ n:Nat,(n:Int)=min mx b.length:=⟨(min mx (b.length:Int)).toNat,by omega⟩
 have hm1:∀ (ts:Array TypeId) (t:TypeId) (W:World),(Builtin.max_ ts t #[.int .i64 keep,.int .i64 0]).run Try.prog W=.ok (.int .i64 mx) W:=fun ts t W=>by rw [max2F,hmx]
 have hm2:∀ (ts:Array TypeId) (t:TypeId) (W:World),(Builtin.min_ ts t #[.int .i64 mx,.int .i64 b.length]).run Try.prog W=.ok (.int .i64 n) W:=fun ts t W=>by rw [min2F,hn]
 have hnl:n≤b.length:=by omega
 have hnc:(n:Int)≤bc:=by omega
 have H4:=hide (la_4 a b keep n (by rw [hn,hmx]))
 obtain ⟨c,hc⟩:∃ c,c=a++b.take n:=⟨_,rfl⟩
 have HCc:=hide hc
 rw [← hc] at H4
 have hcl:c.length≤10000:=by rw [hc,List.length_append,List.length_take];omega
 have hkw:∀ y∈[keep],-9223372036854775808≤y∧y < 9223372036854775808:=fun y hy=>by simp at hy;subst hy;exact hw
 have HHO:=hide (And.intro hoa hob)
 have HHC:=hide hcl
 clear hmx hn hc
 go_enter Try.func5,Try.ntmps5
 go_upto_region 12 with (first
  | (go_at_call 8;refine (awake12_call w).mono ?_;rintro _ w0 ⟨rfl,hk0⟩;have HK0:=hide hk0;clear hk0)
  | (go_at_call 9;refine (One.now HK0.out).mono ?_;rintro _ w1 ⟨p,rfl,h1,_⟩;have H1:=hide h1;clear h1)
  | (go_at_call 11;refine (One.app H1.out (Kept.refl _ _) bdd_0 [120] (by decide) ao a.length ac a (Sl.kept H1.out.k HA.out (by simp)) (by omega) (la_1 a)).mono ?_;clear H1;rintro _ w2 ⟨rfl,h2⟩;have H2:=hide h2;clear h2)
  | (go_at_call 12;refine (One.syn H2.out (Kept.refl _ _) (lb_1 HHO.out.1) [120] (by decide) (la_2 a)).mono ?_;clear H2;rintro _ w3 ⟨rfl,h3⟩;have H3:=hide h3;clear h3)
  | (go_at_call 11;refine (One.app H3.out (Kept.refl _ _) (lb_2 HHO.out.1) [120] (by decide) bo b.length bc b (Sl.kept H3.out.k HB.out (by simp)) (by omega) (la_3 a b)).mono ?_;clear H3;rintro _ w4 ⟨rfl,h4⟩;have H5:=hide h4;clear h4)
  | (go_at_call 29;refine (One.crs H5.out ((Kept.refl _ _).alloc _) (lb_3 HHO.out.1 HHO.out.2) _ 1 1 [keep] (sliLit _ [keep] (by simp)) hkw H4.out).mono ?_;clear H5;rintro _ w6 ⟨p6,rfl,h6,hk6⟩;have H6:=hide h6;clear h6 hk6)
  | (go_at_call 13;refine (One.red H6.out (Kept.refl _ _) (lb_4 HHC.out) [120] (by decide) (la_6 c)).mono ?_;clear H6;rintro _ w7 ⟨⟨a7,c7,rfl,ho7⟩,h7,hk7⟩;have H7:=hide h7;have HO7:=hide ho7;clear ho7 h7 hk7)
  | (go_at_call 29;refine (One.crs H7.out (Kept.refl _ _) (lb_4 HHC.out) _ 0 0 [] (sliNil _) (by simp) (la_5 c)).mono ?_;clear H7;rintro _ w8 ⟨p8,rfl,h8,hk8⟩;have H8:=hide h8;have HO8:=hide (hk8.ownsRow HO7.out (by simp));clear h8 hk8 HO7)
  | (go_at_call 13;refine (One.red H8.out (Kept.refl _ _) (lb_4 HHC.out) [120] (by decide) (la_6 c)).mono ?_;clear H8;rintro _ w9 ⟨⟨a9,c9,rfl,ho9⟩,h9,hk9⟩;have HK9:=hide h9.k;have HO9:=hide ho9;have HO10:=hide (hk9.ownsRow HO8.out (by simp));clear ho9 h9 hk9 HO8;obtain ⟨_,_,e10,_,_,hs10⟩:=mkown HO10.out;cases e10;obtain ⟨_,_,e9,_,_,hs9⟩:=mkown HO9.out;cases e9;have HS10:=hide hs10;have HS9:=hide hs9;clear hs10 hs9))
 refine wp_region_held_drew (S:=fun _=>True) (by kernel_rfl) trivial (fun hHeld=>?_)
 try simp only [List.append_eq,List.cons_append,List.nil_append]
 refine wpAnyH_list (by rfl) (by rfl) ?_
 refine tks [0,1,2,3,4,5,6,8,9,10] (by rfl) (by kernel_rfl) (fun _ _ _ _ _ h=>h) hHeld ?_
 iterate 10
  refine yk ?_ rfl (Or.inl ⟨by rfl,?_⟩) ?_
  rotate_left
  ·intro w9 hSw;clear hSw;go_simp;(try with_reducible rfl)
  try simp only [sT,Act.put]
 refine yk0 ?_
 simp only [setK,sT]
 refine rd1 7 (by kernel_rfl) rfl (fun K0 hK0=>?_)
 go_simp
 refine (copy_call _ ao a.length ac a (Sl.kept (S:=[]) (HK9.out.drew) HA.out (by simp)) (by omega)).mono ?_
 rintro _ x1 ⟨v1,rfl,ho1,hf1,hk1⟩
 have HKx1:Hid (Kept [] w x1):=HK9.out.drew.trans hk1 (by simp)
 have HX1:=hide ho1
 have HF1:=hide hf1
 have HKw1:=hide hk1
 clear ho1 hf1 hk1 hHeld
 go_wp2_with fail
 refine hK0.out _ _ trivial (fun hHeld=>?_)
 clear hK0 K0
 try simp only [sT,Act.put]
 refine rd1 11 (by kernel_rfl) rfl (fun K0 hK0=>?_)
 rw [if_pos (by rfl)]
 refine op_appB _ _ rfl v1 a rfl HX1.out bo n bc (b.take n) rfl ((Sl.kept HKx1.out HB.out (by simp)).take hnl) (by omega) ?_
 intro v2 x2 ho2 hf2 hk2
 rw [← HCc.out] at ho2
 obtain ⟨a2,c2,e2,_,_,hs2⟩:=mkown ho2
 subst e2
 have k91:Kept [] w9 x1:=(Kept.refl [] w9).drew.trans HKw1.out (by simp)
 have k92:Kept [] w9 x2:=k91.trans hk2 (fun k hk=>.inr (by have h9:=HF1.out k (by simpa using hk);simpa using h9))
 have HK92:=hide k92
 have HS2:=hide hs2
 clear ho2 hf2 hk2 hs2 k91 k92 hHeld
 refine hK0.out _ _ trivial (fun hHeld=>?_)
 clear hK0 K0
 try simp only [sT,Act.put]
 refine rd1 12 (by kernel_rfl) rfl (fun K0 hK0=>?_)
 go_simp
 refine (bsame_call _ _ _ _ _ _ _ c c (Sl.kept HK92.out HS10.out (by simp)) HS2.out).mono ?_
 rintro _ x3 ⟨rfl,hk3⟩
 have HK93:=hide (HK92.out.trans hk3 (by simp))
 clear hk3 hHeld HS2
 simp only [decide_true]
 go_wp2_with fail
 refine hK0.out _ _ trivial (fun hHeld=>?_)
 clear hK0 K0
 try simp only [sT,Act.put]
 refine tks [13,14,15,16] (by rfl) (by kernel_rfl) (fun _ _ _ _ _ h=>h) hHeld ?_
 iterate 4
  refine yk ?_ rfl (Or.inl ⟨by rfl,?_⟩) ?_
  rotate_left
  ·intro w9 hSw;clear hSw;go_simp;(try with_reducible rfl)
  try simp only [sT,Act.put]
 refine yk0 ?_
 simp only [setK,sT]
 refine rd1 17 (by kernel_rfl) rfl (fun K0 hK0=>?_)
 go_simp
 refine (bsame_call _ _ _ _ _ _ _ c c (Sl.kept HK93.out HS10.out (by simp)) (Sl.kept HK93.out HS9.out (by simp))).mono ?_
 rintro _ x4 ⟨rfl,hk4⟩
 have HK94:=hide (HK93.out.trans hk4 (by simp))
 clear hk4 hHeld
 simp only [decide_true]
 go_wp2_with fail
 refine hK0.out _ _ trivial (fun hHeld=>?_)
 clear hK0 K0
 try simp only [sT,Act.put]
 refine tks [18,19] (by rfl) (by kernel_rfl) (fun _ _ _ _ _ h=>h) hHeld ?_
 iterate 2
  refine yk ?_ rfl (Or.inl ⟨by rfl,?_⟩) ?_
  rotate_left
  ·intro w9 hSw;clear hSw;go_simp;(try with_reducible rfl)
  try simp only [sT,Act.put]
 refine yk0 ?_
 simp only [setK,sT]
 refine wpAnyH_done (by kernel_rfl) ?_ _
 go_wp2_with fail
 go_ret
 exact ⟨rfl,HK9.out.trans HK94.out (by simp)⟩
end Go.Proofs.Yteiagkjhmhllnaa
