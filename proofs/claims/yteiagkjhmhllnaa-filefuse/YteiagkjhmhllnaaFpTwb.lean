/-
  Two disks side by side, and a box aside.
-/
import Derived.Test.YteiagkjhmhllnaaFpTwo
import Derived.Test.YteiagkjhmhllnaaFdRoom
namespace Go.Proofs.Yteiagkjhmhllnaa
open Go.RowKit
def TwoB (A B:World→List Nat→Nat→Dk→Prop) (w0 w:World) (p pd:Nat) (d dd:Dk) (b:Nat) (T:TypeId) (cs:List Value):Prop :=
 ∃ O Od,A w O p d∧B w Od pd dd∧(∀ k∈O,k ∉ Od)∧(∀ k∈O,w0.heap.size≤k)∧(∀ k∈Od,w0.heap.size≤k)∧Kept [] w0 w∧Bx w b T cs∧b ∉ O∧b ∉ Od
section
variable {A B : World → List Nat → Nat → Dk → Prop} {w0 w W : World} {p pd : Nat} {d dd d' : Dk} {f : FuncId} {args : Array Value} {Pe : Ending → Prop} {b : Nat} {T : TypeId} {cs : List Value}
theorem Two.box (fA:Frm A) (fB:Frm B) (h:Two A B w0 w p pd d dd) (k:Kept [] w W) (hb:w.heap.size≤b) (hB:Bx W b T cs):TwoB A B w0 W p pd d dd b T cs:=by
 obtain ⟨O,Od,h1,h2,h3,h4,h5,h6⟩:=h
 exact ⟨O,Od,fA.kept h1 k (by simp),fB.kept h2 k (by simp),h3,h4,h5,h6.trans k (by simp),hB,fun hm=>by have:=fA.lt h1 b hm;omega,fun hm=>by have:=fB.lt h2 b hm;omega⟩
theorem TwoB.two (h:TwoB A B w0 w p pd d dd b T cs):Two A B w0 w p pd d dd:=by
 obtain ⟨O,Od,h1,h2,h3,h4,h5,h6,_⟩:=h
 exact ⟨O,Od,h1,h2,h3,h4,h5,h6⟩
theorem TwoB.bx (h:TwoB A B w0 w p pd d dd b T cs):Bx w b T cs:=by
 obtain ⟨O,Od,h1,h2,h3,h4,h5,h6,h7,_⟩:=h
 exact h7
theorem TwoB.k (h:TwoB A B w0 w p pd d dd b T cs):Kept [] w0 w:=by
 obtain ⟨O,Od,h1,h2,h3,h4,h5,h6,_⟩:=h
 exact h6
theorem TwoB.swap (h:TwoB A B w0 w p pd d dd b T cs):TwoB B A w0 w pd p dd d b T cs:=by
 obtain ⟨O,Od,h1,h2,h3,h4,h5,h6,h7,h8,h9⟩:=h
 exact ⟨Od,O,h2,h1,fun k hk hm=>h3 k hm hk,h5,h4,h6,h7,h9,h8⟩
theorem TwoB.kept (fA:Frm A) (fB:Frm B) (h:TwoB A B w0 w p pd d dd b T cs) (k:Kept [] w W):TwoB A B w0 W p pd d dd b T cs:=by
 obtain ⟨O,Od,h1,h2,h3,h4,h5,h6,h7,h8,h9⟩:=h
 exact ⟨O,Od,fA.kept h1 k (by simp),fB.kept h2 k (by simp),h3,h4,h5,h6.trans k (by simp),h7.kept k (by simp),h8,h9⟩
theorem TwoB.left (fB:Frm B) (h:TwoB A B w0 w p pd d dd b T cs) (hc:∀ O,A w O p d→(∀ k∈O,w0.heap.size≤k)→Calls Try.prog f args w fun e w'=>Pe e∧ChP A p w O d' w'):Calls Try.prog f args w fun e w'=>Pe e∧TwoB A B w0 w' p pd d' dd b T cs:=by
 obtain ⟨O,Od,h1,h2,h3,h4,h5,h6,hx,hy,hz⟩:=h
 refine (hc O h1 h4).mono ?_
 rintro e w' ⟨he,O',h7,h8,h9⟩
 refine ⟨he,O',Od,h7,fB.kept h2 h8 (fun k hk hm=>h3 k hm hk),fun k hk hm=>?_,fun k hk=>?_,h5,h6.trans h8 (fun k hk=>.inr (h4 k hk)),hx.kept h8 hy,fun hm=>?_,hz⟩
 ·rcases h9 k hk with h10 | h10
  ·exact h3 k h10 hm
  ·have:=fB.lt h2 k hm;omega
 ·rcases h9 k hk with h10 | h10
  ·exact h4 k h10
  ·have:=h6.size;omega
 ·rcases h9 b hm with h10 | h10
  ·exact hy h10
  ·have:=hx.lt;omega
theorem TwoB.right (fA:Frm A) (h:TwoB A B w0 w p pd d dd b T cs) (hc:∀ O,B w O pd dd→(∀ k∈O,w0.heap.size≤k)→Calls Try.prog f args w fun e w'=>Pe e∧ChP B pd w O d' w'):Calls Try.prog f args w fun e w'=>Pe e∧TwoB A B w0 w' p pd d d' b T cs :=
 (h.swap.left fA hc).mono fun _ _ h1=>⟨h1.1,h1.2.swap⟩
theorem TwoB.newL (fB:Frm B) (h:TwoB A B w0 w p pd d dd b T cs) (hc:∀ O,A w O p d→Calls Try.prog f args w fun e w'=>NwP A w d' e w'):Calls Try.prog f args w fun e w'=>∃ p2,e=.returned (.pointer (some ⟨p2,0,none⟩))∧TwoB A B w0 w' p2 pd d' dd b T cs:=by
 obtain ⟨O,Od,h1,h2,h3,h4,h5,h6,hx,hy,hz⟩:=h
 refine (hc O h1).mono ?_
 rintro e w' ⟨p2,O2,he,h7,h8,h9⟩
 exact ⟨p2,he,O2,Od,h7,fB.kept h2 h9 (by simp),fun k hk hm=>by have:=h8 k hk;have:=fB.lt h2 k hm;omega,fun k hk=>by have:=h8 k hk;have:=h6.size;omega,h5,h6.trans h9 (by simp),hx.kept h9 (by simp),fun hm=>by have:=h8 b hm;have:=hx.lt;omega,hz⟩
theorem TwoB.newR (fA:Frm A) (h:TwoB A B w0 w p pd d dd b T cs) (hc:∀ O,B w O pd dd→Calls Try.prog f args w fun e w'=>NwP B w d' e w'):Calls Try.prog f args w fun e w'=>∃ p2,e=.returned (.pointer (some ⟨p2,0,none⟩))∧TwoB A B w0 w' p p2 d d' b T cs :=
 (h.swap.newL fA hc).mono fun _ _ ⟨p2,h1,h2⟩=>⟨p2,h1,h2.swap⟩
end
theorem sl_lt0 {w:World}{ao:Option Addr}{n c:Nat}{l:List Int}(h:Sl w ao n c l):0 < n→∀ k∈blk ao,k < w.heap.size:=fun hn k hk=>by
 obtain ⟨g,o,rfl,hc⟩:=h.some hn
 have h0:=hc 0 hn
 have hg:k=g:=by simpa [blk] using hk
 subst hg
 rcases Nat.lt_or_ge k w.heap.size with h1 | h1
 ·exact h1
 ·simp [World.cell?,Array.getElem?_eq_none h1] at h0
theorem rowT_Deed12:RowT Try.prog 39 6:=⟨_,Try.underlying39,rfl,by kernel_rfl⟩
end Go.Proofs.Yteiagkjhmhllnaa
