/-
  Disks side by side. (Written by mk/mkfplaw.py.)
-/
import Derived.Test.YteiagkjhmhllnaaFpCrs
namespace Go.Proofs.Yteiagkjhmhllnaa
open Go.RowKit
structure Frm (A:World→List Nat→Nat→Dk→Prop):Prop where
 kept:∀ {S:List Nat}{w w':World}{O:List Nat}{p:Nat}{d:Dk},A w O p d→Kept S w w'→(∀ i∈O,i ∉ S)→A w' O p d
 lt:∀ {w:World}{O:List Nat}{p:Nat}{d:Dk},A w O p d→∀ k∈O,k < w.heap.size
theorem frmQ:Frm AtQ:=⟨fun h k hS=>h.kept k hS,fun h=>h.lt⟩
theorem frmF:Frm AtF:=⟨fun h k hS=>h.kept k hS,fun h=>h.lt⟩
def ChP (A:World→List Nat→Nat→Dk→Prop) (p:Nat) (w:World) (O:List Nat) (d:Dk) (w':World):Prop:=∃ O',A w' O' p d∧Kept O w w'∧∀ k∈O',k∈O∨w.heap.size≤k
def NwP (A:World→List Nat→Nat→Dk→Prop) (w:World) (d:Dk) (e:Ending) (w':World):Prop:=∃ p O,e=.returned (.pointer (some ⟨p,0,none⟩))∧A w' O p d∧(∀ k∈O,w.heap.size≤k)∧Kept [] w w'
def One (A:World→List Nat→Nat→Dk→Prop) (w0 w:World) (p:Nat) (d:Dk):Prop:=∃ O,A w O p d∧(∀ k∈O,w0.heap.size≤k)∧Kept [] w0 w
def Two (A B:World→List Nat→Nat→Dk→Prop) (w0 w:World) (p pd:Nat) (d dd:Dk):Prop:=∃ O Od,A w O p d∧B w Od pd dd∧(∀ k∈O,k ∉ Od)∧(∀ k∈O,w0.heap.size≤k)∧(∀ k∈Od,w0.heap.size≤k)∧Kept [] w0 w
section
variable {A B : World → List Nat → Nat → Dk → Prop} {w0 w W : World} {p pd : Nat} {d dd d' : Dk} {f : FuncId} {args : Array Value} {Pe : Ending → Prop}
theorem One.kept (fA:Frm A) (h:One A w0 w p d) (k:Kept [] w W):One A w0 W p d:=by
 obtain ⟨O,h1,h2,h3⟩:=h
 exact ⟨O,fA.kept h1 k (by simp),h2,h3.trans k (by simp)⟩
theorem One.step (h:One A w0 w p d) (hc:∀ O,A w O p d→Calls Try.prog f args w fun e w'=>Pe e∧ChP A p w O d' w'):Calls Try.prog f args w fun e w'=>Pe e∧One A w0 w' p d':=by
 obtain ⟨O,h1,h2,h3⟩:=h
 refine (hc O h1).mono ?_
 rintro e w' ⟨he,O',h4,h5,h6⟩
 refine ⟨he,O',h4,fun k hk=>?_,h3.trans h5 (fun k hk=>.inr (h2 k hk))⟩
 rcases h6 k hk with h7 | h7
 ·exact h2 k h7
 ·have:=h3.size;omega
theorem One.new (hk:Kept [] w0 w) (hc:Calls Try.prog f args w fun e w'=>NwP A w d' e w'):Calls Try.prog f args w fun e w'=>∃ p,e=.returned (.pointer (some ⟨p,0,none⟩))∧One A w0 w' p d'∧Kept [] w w':=by
 refine hc.mono ?_
 rintro e w' ⟨p,O,he,h1,h2,h3⟩
 exact ⟨p,he,⟨O,h1,fun k hk2=>by have:=h2 k hk2;have:=hk.size;omega,hk.trans h3 (by simp)⟩,h3⟩
theorem One.read (fA:Frm A) (h:One A w0 w p d) {Q:Ending→World→Prop}(hc:∀ O,A w O p d→Calls Try.prog f args w fun e w'=>Q e w'∧Kept [] w w'):Calls Try.prog f args w fun e w'=>Q e w'∧One A w0 w' p d∧Kept [] w w':=by
 obtain ⟨O,h1,h2,h3⟩:=h
 refine (hc O h1).mono ?_
 rintro e w' ⟨hq,hk⟩
 exact ⟨hq,⟨O,fA.kept h1 hk (by simp),h2,h3.trans hk (by simp)⟩,hk⟩
theorem Two.swap (h:Two A B w0 w p pd d dd):Two B A w0 w pd p dd d:=by
 obtain ⟨O,Od,h1,h2,h3,h4,h5,h6⟩:=h
 exact ⟨Od,O,h2,h1,fun k hk hm=>h3 k hm hk,h5,h4,h6⟩
theorem Two.kept (fA:Frm A) (fB:Frm B) (h:Two A B w0 w p pd d dd) (k:Kept [] w W):Two A B w0 W p pd d dd:=by
 obtain ⟨O,Od,h1,h2,h3,h4,h5,h6⟩:=h
 exact ⟨O,Od,fA.kept h1 k (by simp),fB.kept h2 k (by simp),h3,h4,h5,h6.trans k (by simp)⟩
theorem Two.left (fB:Frm B) (h:Two A B w0 w p pd d dd) (hc:∀ O,A w O p d→Calls Try.prog f args w fun e w'=>Pe e∧ChP A p w O d' w'):Calls Try.prog f args w fun e w'=>Pe e∧Two A B w0 w' p pd d' dd:=by
 obtain ⟨O,Od,h1,h2,h3,h4,h5,h6⟩:=h
 refine (hc O h1).mono ?_
 rintro e w' ⟨he,O',h7,h8,h9⟩
 refine ⟨he,O',Od,h7,fB.kept h2 h8 (fun k hk hm=>h3 k hm hk),fun k hk hm=>?_,fun k hk=>?_,h5,h6.trans h8 (fun k hk=>.inr (h4 k hk))⟩
 ·rcases h9 k hk with h10 | h10
  ·exact h3 k h10 hm
  ·have:=fB.lt h2 k hm;omega
 ·rcases h9 k hk with h10 | h10
  ·exact h4 k h10
  ·have:=h6.size;omega
theorem Two.right (fA:Frm A) (h:Two A B w0 w p pd d dd) (hc:∀ O,B w O pd dd→Calls Try.prog f args w fun e w'=>Pe e∧ChP B pd w O d' w'):Calls Try.prog f args w fun e w'=>Pe e∧Two A B w0 w' p pd d d' :=
 (h.swap.left fA hc).mono fun _ _ h1=>⟨h1.1,h1.2.swap⟩
theorem Two.newL (fB:Frm B) (h:Two A B w0 w p pd d dd) (hc:∀ O,A w O p d→Calls Try.prog f args w fun e w'=>NwP A w d' e w'):Calls Try.prog f args w fun e w'=>∃ p2,e=.returned (.pointer (some ⟨p2,0,none⟩))∧Two A B w0 w' p2 pd d' dd:=by
 obtain ⟨O,Od,h1,h2,h3,h4,h5,h6⟩:=h
 refine (hc O h1).mono ?_
 rintro e w' ⟨p2,O2,he,h7,h8,h9⟩
 exact ⟨p2,he,O2,Od,h7,fB.kept h2 h9 (by simp),fun k hk hm=>by have:=h8 k hk;have:=fB.lt h2 k hm;omega,fun k hk=>by have:=h8 k hk;have:=h6.size;omega,h5,h6.trans h9 (by simp)⟩
theorem Two.newR (fA:Frm A) (h:Two A B w0 w p pd d dd) (hc:∀ O,B w O pd dd→Calls Try.prog f args w fun e w'=>NwP B w d' e w'):Calls Try.prog f args w fun e w'=>∃ p2,e=.returned (.pointer (some ⟨p2,0,none⟩))∧Two A B w0 w' p p2 d d' :=
 (h.swap.newL fA hc).mono fun _ _ ⟨p2,h1,h2⟩=>⟨p2,h1,h2.swap⟩
theorem Two.start (fA:Frm A) (h:One A w0 w p d) (hc:Calls Try.prog f args w fun e w'=>NwP B w d' e w'):Calls Try.prog f args w fun e w'=>∃ p2,e=.returned (.pointer (some ⟨p2,0,none⟩))∧Two A B w0 w' p p2 d d':=by
 obtain ⟨O,h1,h2,h3⟩:=h
 refine hc.mono ?_
 rintro e w' ⟨p2,O2,he,h7,h8,h9⟩
 exact ⟨p2,he,O,O2,fA.kept h1 h9 (by simp),h7,fun k hk hm=>by have:=h8 k hm;have:=fA.lt h1 k hk;omega,h2,fun k hk=>by have:=h8 k hk;have:=h3.size;omega,h3.trans h9 (by simp)⟩
theorem Two.one (h:Two A B w0 w p pd d dd):One A w0 w p d:=by
 obtain ⟨O,Od,h1,h2,h3,h4,h5,h6⟩:=h
 exact ⟨O,h1,h4,h6⟩
end
section
variable {w : World} {O : List Nat} {p : Nat} {d : Dk}
theorem appQ (h:AtQ w O p d) (hb:BdD d) (n:List UInt8) (hn:n.length≤1000000) (bo:Option Addr) (bn bc:Nat) (B:List Int) (hS:Sl w bo bn bc B) (hbn:bn≤1000000) :
 Calls Try.prog 11 #[.pointer (some ⟨p,0,none⟩),.string (str n),.slice bo bn bc] w fun e w'=>e=.returned (.int .i64 (appF n B d).2)∧ChP AtQ p w O (appF n B d).1 w':=by
 obtain ⟨mb,q,X,h⟩:=h
 exact appP_call h hb n hn bo bn bc B hS hbn
theorem synQ (h:AtQ w O p d) (hb:BdD d) (n:List UInt8) (hn:n.length≤1000000):Calls Try.prog 12 #[.pointer (some ⟨p,0,none⟩),.string (str n)] w fun e w'=>e=.returned (.int .i64 (synF n d).2)∧ChP AtQ p w O (synF n d).1 w':=by
 obtain ⟨mb,q,X,h⟩:=h
 exact synP_call h hb n hn
theorem truQ (h:AtQ w O p d) (hb:BdD d) (n:List UInt8) (hn:n.length≤1000000) (k:Int):Calls Try.prog 20 #[.pointer (some ⟨p,0,none⟩),.string (str n),.int .i64 k] w fun e w'=>e=.returned (.int .i64 (truF n k d).2)∧ChP AtQ p w O (truF n k d).1 w':=by
 obtain ⟨mb,q,X,h⟩:=h
 exact truP_call h hb n hn k
theorem renQ (h:AtQ w O p d) (hb:BdD d) (n t:List UInt8) (hn:n.length≤1000000) (ht:t.length≤1000000):Calls Try.prog 22 #[.pointer (some ⟨p,0,none⟩),.string (str n),.string (str t)] w fun e w'=>e=.returned (.int .i64 (renF n t d).2)∧ChP AtQ p w O (renF n t d).1 w':=by
 obtain ⟨mb,q,X,h⟩:=h
 exact renP_call h hb n t hn ht
theorem rmvQ (h:AtQ w O p d) (hb:BdD d) (n:List UInt8) (hn:n.length≤1000000):Calls Try.prog 24 #[.pointer (some ⟨p,0,none⟩),.string (str n)] w fun e w'=>e=.returned (.int .i64 (rmvF n d).2)∧ChP AtQ p w O (rmvF n d).1 w':=by
 obtain ⟨mb,q,X,h⟩:=h
 exact rmvP_call h hb n hn
theorem armQ (h:AtQ w O p d) (k:Int):Calls Try.prog 10 #[.pointer (some ⟨p,0,none⟩),.int .i64 k] w fun e w'=>e=.returned (.tuple #[])∧ChP AtQ p w O (armF k d) w':=by
 obtain ⟨mb,q,X,h⟩:=h
 exact armP_call h k
theorem redQ (h:AtQ w O p d) (hb:BdD d) (n:List UInt8) (hn:n.length≤1000000):Calls Try.prog 13 #[.pointer (some ⟨p,0,none⟩),.string (str n)] w fun e w'=>RedP w (redF n d) e w':=by
 obtain ⟨mb,q,X,h⟩:=h
 exact redP_call h hb n hn
theorem stsQ (h:AtQ w O p d):Calls Try.prog 15 #[.pointer (some ⟨p,0,none⟩)] w fun e w'=>e=.returned (.int .i64 d.s)∧w'=w:=by
 obtain ⟨mb,q,X,h⟩:=h
 exact stsP_call h
theorem dedQ (h:AtQ w O p d):Calls Try.prog 14 #[.pointer (some ⟨p,0,none⟩)] w fun e w'=>e=.returned (.bool d.d)∧w'=w:=by
 obtain ⟨mb,q,X,h⟩:=h
 exact dedP_call h
theorem crsQ (h:AtQ w O p d) (hb:BdD d) (ko:Option Addr) (kn kc:Nat) (K:List Int) (hK:SlI w ko kn kc K) (hKw:∀ z∈K,-9223372036854775808≤z∧z < 9223372036854775808) :
 Calls Try.prog 29 #[.pointer (some ⟨p,0,none⟩),.slice ko kn kc] w fun e w'=>NwP AtQ w (crsF K d) e w':=by
 obtain ⟨mb,q,X,h⟩:=h
 exact crsP_call h hb ko kn kc K hK hKw
end
theorem slLit (w:World) (l:List Int) (hl:l.length≤1000):Sl (w.alloc (.cells (l.map (Value.int .u8)).toArray 5)) (some ⟨w.heap.size,0,none⟩) l.length l.length l:=by
 refine ⟨rfl,Nat.le_refl _,by unfold maxLen;omega,by simp,fun i hi=>⟨w.heap.size,0,rfl,?_⟩⟩
 have h:=(Bx.new w 5 (l.map (Value.int .u8))).cell i (v:=.int .u8 (l.getD i 0)) (by simp [List.getD,List.getElem?_eq_getElem hi])
 rw [Nat.zero_add];exact h
theorem sliLit (w:World) (l:List Int) (hl:l.length≤1000):SlI (w.alloc (.cells (l.map (Value.int .i64)).toArray 3)) (some ⟨w.heap.size,0,none⟩) l.length l.length l:=by
 refine ⟨rfl,Nat.le_refl _,by unfold maxLen;omega,fun i hi=>⟨w.heap.size,0,rfl,?_⟩⟩
 have h:=(Bx.new w 3 (l.map (Value.int .i64))).cell i (v:=.int .i64 l[i]) (by simp [hi])
 rw [Nat.zero_add];exact h
end Go.Proofs.Yteiagkjhmhllnaa
