/-
  Texts of this claim that are laid as one: SeAsk, SeDone, SeLive.
-/
import Derived.Test.YtddhmfildfdbdaaGreatQ13r
set_option maxHeartbeats 2000000
/-
 New,All,Clone,Find,Ask.
-/
namespace Go.Proofs.YtddhmfildfdbdaaGreat
open Go.RowKit
variable {P : Nat → Prop}
def NewPT (w:World) (size:Int) (e:Ending) (w':World):Prop :=
 (1≤size∧size≤16∧e=.returned (.tuple #[.pointer (some ⟨w.heap.size,0,none⟩),.int .i64 0])∧w'=w.alloc (.cells #[.int .i64 size,.slice none 0 0] 104)) ∨
 (¬ (1≤size∧size≤16)∧e=.returned (.tuple #[.pointer none,.int .i64 1])∧w'=w)
theorem newT_call (w:World) (size:Int) :
 Calls Tryz.prog 21 #[.int .i64 size] w fun e w'=>NewPT w size e w':=by
 by_cases h1:size < 1
 ·go_enter Tryz.func21,Tryz.ntmps21
  go_wp2
  go_ret2
  exact .inr ⟨by omega,rfl,rfl⟩
 ·by_cases h2:16 < size
  ·go_enter Tryz.func21,Tryz.ntmps21
   go_wp2
   go_ret2
   exact .inr ⟨by omega,rfl,rfl⟩
  ·go_enter Tryz.func21,Tryz.ntmps21
   go_wp2
   go_ret2
   exact .inl ⟨by omega,by omega,rfl,rfl⟩
theorem TbA.new (w:World) (sz:Nat) (h:1≤sz):TbA P (w.alloc (.cells #[.int .i64 sz,.slice none 0 0] 104)) w.heap.size sz (.slice none 0 0) [] [] :=
 ⟨heap_alloc_new w _,h,.inl ⟨rfl,rfl⟩,(fun _ hx=>by cases hx),rfl⟩
theorem all_call {w:World}{b sz:Nat}{v:Value}{X:List (Se × Value)}{L:List Se}(h:TbA P w b sz v X L) (hl:L.length≤100000) (hok:∀ x∈L,okS x) :
 Calls Tryz.prog 67 #[.pointer (some ⟨b,0,none⟩)] w fun e w'=>CopS w L e w':=by
 obtain ⟨c0,c1⟩:=h.cells
 obtain ⟨ao,c,hv,hS⟩:=h.sl
 subst hv
 have cM:=made_callT h
 have cC:=copySessions_call w ao X.length c X L hS h.ses (by rw [h.len];exact hl) hok
 clear hS h
 go_enter Tryz.func67,Tryz.ntmps67
 go_wp2_with fail
 refine cM.mono ?_
 rintro _ W ⟨rfl,hW0⟩
 obtain rfl:=hW0.symm
 go_wp2_with fail
 refine cC.mono ?_
 rintro _ w2 ⟨v2,X2,rfl,h1,h2,h3,h4⟩
 go_wp2_with fail
 go_ret
 exact ⟨_,X2,rfl,h1,h2,h3,h4⟩
end Go.Proofs.YtddhmfildfdbdaaGreat
namespace Go.Proofs.YtddhmfildfdbdaaGreat
open Go.RowKit
variable {P : Nat → Prop}
end Go.Proofs.YtddhmfildfdbdaaGreat
namespace Go.Proofs.YtddhmfildfdbdaaGreat
open Go.RowKit
def LiveT (w0 w:World) (b sz:Nat) (L:List Se):Prop :=
 ∃ v X,TbA (fun k=>w0.heap.size≤k) w b sz v X L∧Kept [] w0 w∧w0.heap.size≤b∧(∀ k,v.ownBlock=some k→w0.heap.size≤k)∧L.length≤sz∧sz≤16∧∀ x∈L,okS x
theorem LiveT.kept {w0 w w':World}{b sz:Nat}{L:List Se}(h:LiveT w0 w b sz L) (k:Kept [] w w'):LiveT w0 w' b sz L:=by
 obtain ⟨v,X,h1,h2,h3,h4,h5⟩:=h
 exact ⟨v,X,h1.kept k,h2.trans k (by simp),h3,h4,h5⟩
theorem LiveT.keeps {w0 w:World}{b sz:Nat}{L:List Se}(h:LiveT w0 w b sz L):Kept [] w0 w:=by
 obtain ⟨v,X,h1,h2,_⟩:=h;exact h2
theorem LiveT.lt {w0 w:World}{b sz:Nat}{L:List Se}(h:LiveT w0 w b sz L):b < w.heap.size:=by
 obtain ⟨v,X,h1,_⟩:=h;exact lt_of_at h1.at_
theorem LiveT.new (w:World) {sz:Nat}(h1:1≤sz) (h2:sz≤16):LiveT w (w.alloc (.cells #[.int .i64 sz,.slice none 0 0] 104)) w.heap.size sz [] :=
 ⟨_,[],TbA.new w sz h1,(Kept.refl _ _).alloc _,Nat.le_refl _,fun k hk=>by simp [Value.ownBlock] at hk,Nat.zero_le _,h2,fun x hx=>by simp at hx⟩
theorem liveT_new (w:World) (sz:Nat) (h1:1≤sz) (h2:sz≤16) :
 Calls Tryz.prog 21 #[.int .i64 sz] w fun e w'=>∃ b,e=.returned (.tuple #[.pointer (some ⟨b,0,none⟩),.int .i64 0])∧LiveT w w' b sz []:=by
 refine (newT_call w sz).mono fun e w' h=>?_
 rcases h with ⟨_,_,he,rfl⟩ | ⟨h,_⟩
 ·exact ⟨_,he,LiveT.new w h1 h2⟩
 ·omega
theorem newT_bad (w:World) (size:Int) (h:¬ (1≤size∧size≤16)) :
 Calls Tryz.prog 21 #[.int .i64 size] w fun e w'=>e=.returned (.tuple #[.pointer none,.int .i64 1])∧w'=w:=by
 refine (newT_call w size).mono fun e w' h2=>?_
 rcases h2 with ⟨h3,h4,_⟩ | ⟨_,h3⟩
 ·exact absurd ⟨h3,h4⟩ h
 ·exact h3
end Go.Proofs.YtddhmfildfdbdaaGreat
