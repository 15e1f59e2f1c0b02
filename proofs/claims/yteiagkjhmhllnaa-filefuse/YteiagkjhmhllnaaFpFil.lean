/-
  A file of the program's: put, sync, cut, left, clone, flip; bytes.Clone.
-/
import Derived.Test.YteiagkjhmhllnaaFpOps
namespace Go.Proofs.Yteiagkjhmhllnaa
open Go.RowKit
theorem q_nilF:∀ (w:World) (a:Option Addr) (n c n' c':Nat),(binOp .eql 28 (.slice a n c) (.slice none n' c')).run Try.prog w=.ok (.bool a.isNone) w :=
 fun w a n c n' c'=>Lib.run_eql_slice_nil w _ _ a n c n' c' Try.underlying28
theorem mkown {w:World}{v:Value}{l:List Int}(h:Own w v l):∃ ao c,v=.slice ao l.length c∧l.length≤c∧c≤9223372036854775807∧Sl w ao l.length c l:=by
 obtain ⟨ao,n,c,h1,h2,_⟩:=own_sl h
 have h3:=h2.1
 subst h3
 exact ⟨ao,c,h1,h2.2.1,h2.2.2.1,h2⟩
set_option maxHeartbeats 1000000 in
set_option maxRecDepth 100000 in
theorem bcloneF_call (w:World) (ao:Option Addr) (n c:Nat) (l:List Int) (hs:Sl w ao n c l) (hbig:n≤100000000000) :
 Calls Try.prog 46 #[.slice ao n c] w fun e w'=>∃ a c',e=.returned (.slice a n c')∧Own w' (.slice a n c') l∧(∀ k,(Value.slice a n c').ownBlock=some k→w.heap.size≤k)∧Kept [] w w':=by
 have qn:=q_nilF
 have hn:=hs.1
 subst hn
 cases ao with
 | none =>
   have hc:c=0:=hs.2.2.2.1 rfl
   have hn:l.length=0:=by have:=hs.2.1;omega
   have hl:l=[]:=by simpa using hn
   subst hl
   go_enter Try.func46,Try.ntmps46
   go_wp2
   go_ret
   subst hc
   exact ⟨none,0,rfl,World.ownsRow_nil _ _ _ _,ownNil _,Kept.refl _ _⟩
 | some a =>
   have HS:Hid (Sl w (some a) l.length c l):=hs
   have hO:Own (w.alloc (.cells #[] 5)) (.slice (some ⟨w.heap.size,0,none⟩) 0 0) []:=World.ownsRow_made w #[] 0 (Nat.zero_le _) (Nat.zero_le _) rfl
   have hS:Sl (w.alloc (.cells #[] 5)) (some a) l.length c l:=Sl.kept (S:=[]) ((Kept.refl _ _).alloc _) hs (by simp)
   clear hs
   go_enter Try.func46,Try.ntmps46
   go_wp2_with (at_builtin;refine wp_app rfl _ _ rfl _ [] rfl hO (some a) l.length c l rfl hS (by simp;omega) ?_)
   intro v1 w1 hown hfr hk
   have hK:Kept [] w w1:=((Kept.refl _ _).alloc _).trans hk (by simp [Value.ownBlock])
   obtain ⟨a1,c1,rfl,_,_,_⟩:=mkown hown
   go_wp2
   go_ret
   refine ⟨a1,c1,rfl,hown,fun k hk2=>?_,hK⟩
   rcases hfr k hk2 with h1 | h1
   ·simp [Value.ownBlock] at h1;omega
   ·simp at h1;omega
section
variable {w : World} {g : Nat} {v : Value} {L : List Int} {l : Int}
set_option maxHeartbeats 1000000 in
set_option maxRecDepth 100000 in
theorem putF_call (hB:Bx w g 61 [v,.int .i64 l]) (hO:Own w v L) (hg:v.ownBlock≠some g) (bo:Option Addr) (bn bc:Nat) (B:List Int) (hS:Sl w bo bn bc B) (hl:L.length+bn≤100000000000) :
 Calls Try.prog 39 #[.pointer (some ⟨g,0,none⟩),.slice bo bn bc] w fun e w'=>e=.returned (.tuple #[])∧∃ v',Bx w' g 61 [v',.int .i64 l]∧Own w' v' (L++B)∧(∀ k,v'.ownBlock=some k→v.ownBlock=some k∨w.heap.size≤k)∧Kept (g :: v.ownBlock.toList) w w':=by
 have c0:=hB.cell 0 rfl
 have HB:=hide hB
 have HG:=hide hg
 obtain ⟨ao,c,rfl,hc1,hc2,_⟩:=mkown hO
 clear hB hg
 go_enter Try.func39,Try.ntmps39
 go_wp2_with (at_builtin;refine wp_app rfl _ _ rfl _ L rfl hO bo bn bc B rfl hS (by omega) ?_)
 intro v1 w1 hown hfr hk
 have HK:=hide hk
 have HO:=hide hown
 have HF:=hide hfr
 have HB1:Hid (Bx w1 g 61 [.slice ao L.length c,.int .i64 l]):=HB.out.kept hk (by intro hm;exact HG.out (by simpa using hm))
 have z0:=HB1.out.froz 0
 have y0:=HB1.out.cell 0 rfl
 obtain ⟨a1,c1,e1,_,_,_⟩:=mkown hown
 subst e1
 generalize (L++B).length=m1 at *
 clear hown hfr hk c0 hS hO
 go_wp2_with fail
 go_end0
 have k2:Kept [g] w1 (w1.setCell ⟨g,0,none⟩ (.slice a1 m1 c1)):=(Kept.refl _ _).setCell (by simp) _
 refine ⟨rfl,_,HB1.out.set 0 _,k2.ownsRow HO.out (fun k hk hm=>?_),HF.out,(HK.out.mono (fun i hi=>.inl (List.mem_cons_of_mem _ hi))).setCell (by simp) _⟩
 simp at hm;subst hm
 rcases HF.out k hk with h1 | h1
 ·exact HG.out h1
 ·have:=HB.out.lt;omega
set_option maxHeartbeats 1000000 in
set_option maxRecDepth 100000 in
theorem syncF_call (hB:Bx w g 61 [v,.int .i64 l]) (hO:Own w v L) (hg:v.ownBlock≠some g) :
 Calls Try.prog 44 #[.pointer (some ⟨g,0,none⟩)] w fun e w'=>e=.returned (.tuple #[])∧Bx w' g 61 [v,.int .i64 L.length]∧Own w' v L∧Kept [g] w w':=by
 have c0:=hB.cell 0 rfl
 have z1:=hB.froz 1
 have c1:=hB.cell 1 rfl
 have HB:=hide hB
 have HO:=hide hO
 have HG:=hide hg
 obtain ⟨ao,c,rfl,hc1,hc2,_⟩:=mkown hO
 clear hB hg hO
 go_enter Try.func44,Try.ntmps44
 go_wp2_with fail
 go_end0
 have k2:Kept [g] w (w.setCell ⟨g,1,none⟩ (.int .i64 L.length)):=(Kept.refl _ _).setCell (by simp) _
 exact ⟨rfl,HB.out.set 1 _,k2.ownsRow HO.out (fun k hk hm=>by simp at hm;subst hm;exact HG.out hk),k2⟩
theorem min2F {P:Program}(ts:Array TypeId) (t:TypeId) (W:World) (x y:Int):(Builtin.min_ ts t #[.int .i64 x,.int .i64 y]).run P W=.ok (.int .i64 (min x y)) W:=by
 by_cases h:x≤y
 ·rw [Int.min_eq_left h]
  simp [Builtin.min_,Builtin.min2];omega
 ·rw [Int.min_eq_right (by omega)]
  simp [Builtin.min_,Builtin.min2];omega
theorem max2F {P:Program}(ts:Array TypeId) (t:TypeId) (W:World) (x y:Int):(Builtin.max_ ts t #[.int .i64 x,.int .i64 y]).run P W=.ok (.int .i64 (max x y)) W:=by
 by_cases h:x≤y
 ·rw [Int.max_eq_right h]
  simp [Builtin.max_,Builtin.max2];omega
 ·rw [Int.max_eq_left (by omega)]
  simp [Builtin.max_,Builtin.max2];omega
set_option maxHeartbeats 1000000 in
set_option maxRecDepth 100000 in
theorem cutF_call {lk:Nat}(hB:Bx w g 61 [v,.int .i64 lk]) (hO:Own w v L) (hg:v.ownBlock≠some g) (n:Nat) (hn:n≤L.length) (hl:L.length≤100000000000) :
 Calls Try.prog 54 #[.pointer (some ⟨g,0,none⟩),.int .i64 n] w fun e w'=>e=.returned (.tuple #[])∧∃ v',Bx w' g 61 [v',.int .i64 (min lk n:Nat)]∧Own w' v' (L.take n)∧(∀ k,v'.ownBlock=some k→w.heap.size≤k)∧Kept [g] w w':=by
 have c0:=hB.cell 0 rfl
 have HB:=hide hB
 obtain ⟨ao,c,rfl,hc1,hc2,hsl⟩:=mkown hO
 have hm:∀ (ts:Array TypeId) (t:TypeId) (W:World),(Builtin.min_ ts t #[.int .i64 (lk:Int),.int .i64 (n:Int)]).run Try.prog W=.ok (.int .i64 ((min lk n:Nat):Int)) W:=fun ts t W=>by
  rw [min2F];congr 2;omega
 have hnc:(n:Int)≤c:=by omega
 have cC:=hide (bcloneF_call w ao n c (L.take n) (hsl.take hn) (by omega))
 clear hB hg hO hsl
 go_enter Try.func54,Try.ntmps54
 go_wp2_with (go_at_call 46;refine cC.out.mono ?_;clear cC;rintro _ w1 ⟨a1,c1,rfl,ho1,hf1,hk1⟩;have HO1:=hide ho1;have HF1:=hide hf1;have HK1:=hide hk1;have HB1:=hide (HB.out.kept hk1 (by simp));have z0:=HB1.out.froz 0;have y0:=HB1.out.cell 0 rfl;have y1:=HB1.out.cell 1 rfl;have z1:=HB1.out.froz 1;clear ho1 hf1 hk1 c0)
 go_end0
 have k2:Kept [g] w1 ((w1.setCell ⟨g,0,none⟩ (.slice a1 n c1)).setCell ⟨g,1,none⟩ (.int .i64 ((min lk n:Nat):Int))):=((Kept.refl _ _).setCell (by simp) _).setCell (by simp) _
 refine ⟨rfl,_,(HB1.out.set 0 _).set 1 _,k2.ownsRow HO1.out (fun k hk hm=>?_),HF1.out,(HK1.out.mono (by simp)).trans k2 (by simp)⟩
 simp at hm;subst hm
 have:=HF1.out k hk
 have:=HB.out.lt
 omega
end
end Go.Proofs.Yteiagkjhmhllnaa
