/-
  FileFuse: a disk with a fuse beside one without, plainly.
-/
import Derived.Test.YteiagkjhmhllnaaFdBd
import Derived.Test.YteiagkjhmhllnaaFdRen
namespace Go.Proofs.Yteiagkjhmhllnaa
def fA (n:Int) (L:List Fl) (s:Int):Dk:=⟨L,s,n - s,false⟩
def fB (L:List Fl) (s:Int):Dk:=⟨L,s,-1,false⟩
def FuP (n s:Int) (ra rb:Dk × Int):Prop :=
 (∃ L' s',ra.1=fA n L' s'∧rb.1=fB L' s'∧s≤s'∧s'≤n∧ra.2=rb.2)∨(ra.1.d=true∧ra.2=7∧ra.1.s=n+1∧s=n)
theorem stB (L:List Fl) (s:Int):stepF (fB L s)=(fB L (s+1),true):=rfl
theorem stA0 (L:List Fl) (n:Int):stepF (fA n L n)=(⟨L,n+1,n - n,true⟩,false):=by
 unfold stepF fA
 rw [if_pos (by show n - n=0;omega)]
theorem stA1 (L:List Fl) {n s:Int}(h:s < n):stepF (fA n L s)=(fA n L (s+1),true):=by
 unfold stepF fA
 rw [if_neg (by show ¬ n - s=0;omega),if_pos (by show 0 < n - s;omega)]
 simp only [Prod.mk.injEq,and_true,Dk.mk.injEq,true_and]
 omega
theorem same_fu {n s:Int}(hs:s≤n) (L:List Fl) (r:Int):FuP n s (fA n L s,r) (fB L s,r):=.inl ⟨L,s,rfl,rfl,Int.le_refl _,hs,rfl⟩
theorem step_fu2 {n s:Int}(hs:s≤n) (L G:List Fl) :
 FuP n s (if (stepF (fA n L s)).2=true then ⟨G,(stepF (fA n L s)).1.s,(stepF (fA n L s)).1.f,(stepF (fA n L s)).1.d⟩ else (stepF (fA n L s)).1,resF (stepF (fA n L s)).2) (if (stepF (fB L s)).2=true then ⟨G,(stepF (fB L s)).1.s,(stepF (fB L s)).1.f,(stepF (fB L s)).1.d⟩ else (stepF (fB L s)).1,resF (stepF (fB L s)).2):=by
 rcases Int.lt_or_eq_of_le hs with h | rfl
 ·rw [stA1 L h,stB]
  exact .inl ⟨G,s+1,rfl,rfl,by omega,by omega,rfl⟩
 ·rw [stA0]
  exact .inr ⟨rfl,rfl,rfl,rfl⟩
theorem app_fu {n s:Int}(hs:s≤n) (L:List Fl) (nm:List UInt8) (b:List Int):FuP n s (appF nm b (fA n L s)) (appF nm b (fB L s)):=by
 cases hn:nameF nm
 ·have h1:∀ d:Dk,d.d=false→appF nm b d=(d,1):=fun d hd=>by unfold appF;rw [hd,hn];rfl
  rw [h1 _ rfl,h1 _ rfl]
  exact same_fu hs L 1
 ·obtain ⟨i,hi⟩:=apL_find nm L
  rw [appF_ok (d:=fA n L s) rfl hn hi,appF_ok (d:=fB L s) rfl hn hi]
  rcases Int.lt_or_eq_of_le hs with h | rfl
  ·rw [stA1 L h,stB]
   exact .inl ⟨_,s+1,rfl,rfl,by omega,by omega,rfl⟩
  ·rw [stA0]
   exact .inr ⟨rfl,rfl,rfl,rfl⟩
theorem syn_fu {n s:Int}(hs:s≤n) (L:List Fl) (nm:List UInt8):FuP n s (synF nm (fA n L s)) (synF nm (fB L s)):=by
 cases hf:findF nm L with
 | none =>
   have h1:∀ d:Dk,d.d=false→d.L=L→synF nm d=(d,8):=fun d hd hL=>by unfold synF;rw [hd,hL,hf];rfl
   rw [h1 _ rfl rfl,h1 _ rfl rfl]
   exact same_fu hs L 8
 | some i =>
   rw [synF_ok (d:=fA n L s) rfl hf,synF_ok (d:=fB L s) rfl hf]
   exact step_fu2 hs L _
theorem rmv_fu {n s:Int}(hs:s≤n) (L:List Fl) (nm:List UInt8):FuP n s (rmvF nm (fA n L s)) (rmvF nm (fB L s)):=by
 cases hf:findF nm L with
 | none =>
   have h1:∀ d:Dk,d.d=false→d.L=L→rmvF nm d=(d,8):=fun d hd hL=>by unfold rmvF;rw [hd,hL,hf];rfl
   rw [h1 _ rfl rfl,h1 _ rfl rfl]
   exact same_fu hs L 8
 | some i =>
   rw [rmvF_ok (d:=fA n L s) rfl hf,rmvF_ok (d:=fB L s) rfl hf]
   exact step_fu2 hs L _
theorem tru_fu {n s:Int}(hs:s≤n) (L:List Fl) (nm:List UInt8) (k:Int):FuP n s (truF nm k (fA n L s)) (truF nm k (fB L s)):=by
 cases hf:findF nm L with
 | none =>
   have h1:∀ d:Dk,d.d=false→d.L=L→truF nm k d=(d,8):=fun d hd hL=>by unfold truF;rw [hd,hL,hf];rfl
   rw [h1 _ rfl rfl,h1 _ rfl rfl]
   exact same_fu hs L 8
 | some i =>
   obtain ⟨hi,_⟩:=findF_lt hf
   by_cases hk:k < 0∨(L[i].b.length:Int) < k
   ·rw [truF_no (d:=fA n L s) rfl hf hi hk,truF_no (d:=fB L s) rfl hf hi hk]
    exact same_fu hs L 1
   ·rw [truF_ok (d:=fA n L s) rfl hf hi hk,truF_ok (d:=fB L s) rfl hf hi hk]
    exact step_fu2 hs L _
theorem ren_fu {n s:Int}(hs:s≤n) (L:List Fl) (nm t:List UInt8):FuP n s (renF nm t (fA n L s)) (renF nm t (fB L s)):=by
 cases hf:findF nm L with
 | none =>
   have h1:∀ d:Dk,d.d=false→d.L=L→renF nm t d=(d,8):=fun d hd hL=>by unfold renF;rw [hd,hL,hf];rfl
   rw [h1 _ rfl rfl,h1 _ rfl rfl]
   exact same_fu hs L 8
 | some i =>
   cases ht:nameF t
   ·rw [renF_no (d:=fA n L s) rfl hf ht,renF_no (d:=fB L s) rfl hf ht]
    exact same_fu hs L 1
   ·rw [renF_ok (d:=fA n L s) rfl hf ht,renF_ok (d:=fB L s) rfl hf ht]
    rcases Int.lt_or_eq_of_le hs with h | rfl
    ·rw [stA1 L h,stB]
     by_cases e:nm=t
     ·simp only [e,ne_eq,not_true_eq_false,and_false,if_false]
      exact .inl ⟨L,s+1,rfl,rfl,by omega,by omega,rfl⟩
     ·simp only [ne_eq,e,not_false_eq_true,and_self,if_true]
      exact .inl ⟨_,s+1,rfl,rfl,by omega,by omega,rfl⟩
    ·rw [stA0]
     exact .inr ⟨rfl,rfl,rfl,rfl⟩
theorem bd_fA {N:Nat}{n s:Int}{L:List Fl}(h:BdN N (fB L s)) (hn:n≤63) (hs:s≤n):BdN N (fA n L s) :=
 ⟨h.s,⟨by show -1≤n - s;omega,by have:=h.s.1;show n - s < _;have h2:0≤s:=h.s.1;omega⟩,h.n,h.b,h.l⟩
end Go.Proofs.Yteiagkjhmhllnaa
