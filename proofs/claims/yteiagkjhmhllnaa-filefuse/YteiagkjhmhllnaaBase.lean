/-
  What stays and what turns in memory, and bytes in memory: small lemmas of our own, over any program.
-/
import Derived.WalkKit
import Derived.Deep.Draws
import Derived.OneCell
import Derived.Laws.IdiomStrings
namespace Go.Proofs.Yteiagkjhmhllnaa
open Go.RowKit
structure Kept (S:List Nat) (w w':World):Prop where
 os:w'.os=w.os
 tape:w'.tape=w.tape
 output:w'.output=w.output
 size:w.heap.size≤w'.heap.size
 block:∀ k,k < w.heap.size→k ∉ S→w'.heap[k]?=w.heap[k]?
theorem Kept.refl (S:List Nat) (w:World):Kept S w w:=⟨rfl,rfl,rfl,Nat.le_refl _,fun _ _ _=>rfl⟩
theorem Kept.trans {S T:List Nat}{a b c:World}(h:Kept S a b) (k:Kept T b c) (hT:∀ i∈T,i∈S∨a.heap.size≤i):Kept S a c :=
 ⟨k.os.trans h.os,k.tape.trans h.tape,k.output.trans h.output,Nat.le_trans h.size k.size,fun i hi hS=>by
  rw [k.block i (Nat.lt_of_lt_of_le hi h.size) (fun hm=>by rcases hT i hm with h1 | h1;exact hS h1;omega),h.block i hi hS]⟩
theorem Kept.mono {S T:List Nat}{a b:World}(h:Kept S a b) (hT:∀ i∈S,i∈T∨a.heap.size≤i):Kept T a b :=
 (Kept.refl T a).trans h hT
theorem Kept.drew {S:List Nat}{a w:World}(h:Kept S a w):Kept S a w.drew:=⟨h.os,h.tape,h.output,h.size,h.block⟩
theorem Kept.alloc {S:List Nat}{a w:World}(h:Kept S a w) (o:Obj):Kept S a (w.alloc o) :=
 h.trans (T:=[]) ⟨rfl,rfl,rfl,by simp,fun k hk _=>Below.heap_alloc _ _ _ hk⟩ (by simp)
theorem Kept.setCell {S:List Nat}{a w:World}(h:Kept S a w) {p:Addr}(hp:p.block∈S∨a.heap.size≤p.block) (u:Value):Kept S a (w.setCell p u) :=
 h.trans (T:=[p.block]) ⟨rfl,rfl,rfl,by simp [World.setCell],fun k _ hk=>Below.heap_setCell _ _ _ _ (by simpa using hk)⟩ (by simpa using hp)
theorem Kept.grown {S:List Nat}{a w w':World}{row:Option Nat}(h:Kept S a w) (hg:w.grownBy w' row) (hr:∀ k,row=some k→k∈S∨a.heap.size≤k):Kept S a w' :=
 ⟨hg.os.trans h.os,hg.tape.trans h.tape,hg.output.trans h.output,Nat.le_trans h.size hg.size,fun i hi hS=>by
  rw [hg.block i (Nat.lt_of_lt_of_le hi h.size) (fun e=>by rcases hr i e.symm with h1 | h1;exact hS h1;omega),h.block i hi hS]⟩
theorem Kept.drewN {S:List Nat}{a w:World}(h:Kept S a w) (n:Nat):Kept S a (w.drewN n):=⟨h.os,h.tape,h.output,h.size,h.block⟩
theorem Kept.below {S:List Nat}{a w:World}(h:Kept S a w) {B:Nat}(hB:B≤a.heap.size) (hS:∀ i∈S,B≤i):Below B a w :=
 ⟨h.os,h.tape,h.output,h.size,fun k hk=>h.block k (by omega) (fun hm=>by have:=hS k hm;omega)⟩
theorem Kept.of_below {S:List Nat}{a w:World}(h:Below a.heap.size a w):Kept S a w :=
 ⟨h.os,h.tape,h.output,h.size,fun k hk _=>h.block k hk⟩
theorem Kept.cell {S:List Nat}{a w:World}(h:Kept S a w) {p:Addr}{v:Value}(hc:a.cell? p=some v) (hS:p.block ∉ S):w.cell? p=some v:=by
 have hb:p.block < a.heap.size:=by
  unfold World.cell? at hc
  by_cases hlt:p.block < a.heap.size
  ·exact hlt
  ·rw [Array.getElem?_eq_none (by omega)] at hc;simp at hc
 rw [← hc];exact World.cell?_of_block (w:=a) (h.block _ hb hS)
theorem Kept.at {S:List Nat}{a w:World}(h:Kept S a w) {k:Nat}{o:Obj}(hc:a.heap[k]?=some o) (hS:k ∉ S):w.heap[k]?=some o:=by
 have hb:k < a.heap.size:=by
  by_cases hlt:k < a.heap.size
  ·exact hlt
  ·rw [Array.getElem?_eq_none (by omega)] at hc;simp at hc
 rw [← hc];exact h.block _ hb hS
theorem lt_of_at {w:World}{k:Nat}{o:Obj}(hc:w.heap[k]?=some o):k < w.heap.size:=by
 by_cases hlt:k < w.heap.size
 ·exact hlt
 ·rw [Array.getElem?_eq_none (by omega)] at hc;simp at hc
theorem Kept.ownsRow {S:List Nat}{a w:World}(h:Kept S a w) {base:Nat}{e:TypeId}{size:Nat}{v:Value}{n:Nat}{xs:List Value}
 (ho:a.ownsRow base e size v n xs) (hS:∀ k,v.ownBlock=some k→k ∉ S):w.ownsRow base e size v n xs:=by
 obtain ⟨h1,h2⟩:=ho
 refine ⟨h1,?_⟩
 rcases h2 with h2 | ⟨g,cap,cur,hv,hg,hh,r⟩
 ·exact .inl h2
 ·exact .inr ⟨g,cap,cur,hv,hg,h.at hh (hS g (by rw [hv];rfl)),r⟩
def Sl (w:World) (ao:Option Addr) (n c:Nat) (l:List Int):Prop :=
 l.length=n∧n≤c∧c≤maxLen∧(ao=none→c=0)∧∀ i,i < n→∃ b o,ao=some ⟨b,o,none⟩∧w.cell? ⟨b,o+i,none⟩=some (.int .u8 (l.getD i 0))
def blk:Option Addr→List Nat
 | some a=>[a.block]
 | none=>[]
theorem Sl.nil (w:World):Sl w none 0 0 []:=⟨rfl,Nat.le_refl _,Nat.zero_le _,fun _=>rfl,fun i hi=>by omega⟩
theorem Sl.kept {S:List Nat}{a w:World}(h:Kept S a w) {ao:Option Addr}{n c:Nat}{l:List Int}(hs:Sl a ao n c l) (hS:∀ k∈blk ao,k ∉ S):Sl w ao n c l:=by
 obtain ⟨h1,h2,h3,h4,h5⟩:=hs
 refine ⟨h1,h2,h3,h4,fun i hi=>?_⟩
 obtain ⟨b,o,e,hc⟩:=h5 i hi
 exact ⟨b,o,e,h.cell hc (hS b (by rw [e];simp [blk]))⟩
theorem Sl.some {w:World}{ao:Option Addr}{n c:Nat}{l:List Int}(hs:Sl w ao n c l) (hn:0 < n) :
 ∃ b o,ao=some ⟨b,o,none⟩∧∀ i,i < n→w.cell? ⟨b,o+i,none⟩=some (.int .u8 (l.getD i 0)):=by
 obtain ⟨h1,h2,h3,h4,h5⟩:=hs
 obtain ⟨b,o,e,_⟩:=h5 0 hn
 refine ⟨b,o,e,fun i hi=>?_⟩
 obtain ⟨b',o',e',hc⟩:=h5 i hi
 rw [e] at e';cases e';exact hc
theorem Sl.of_owns {w:World}{base e:Nat}{v:Value}{l:List Int}(ho:w.ownsRow base e 1 v l.length (l.map (Value.int .u8))) :
 ∃ ao c,v=.slice ao l.length c∧Sl w ao l.length c l∧(∀ k∈blk ao,base≤k∧k < w.heap.size∧v.ownBlock=Option.some k):=by
 obtain ⟨h1,h2⟩:=ho
 rcases h2 with ⟨hv,hn⟩ | ⟨g,cap,cur,hv,hg,hh,h3,h4,h5,h6⟩
 ·refine ⟨none,0,by rw [hv,hn],?_,by simp [blk]⟩
  have:l=[]:=by simpa using hn
  subst this;exact Sl.nil w
 ·refine ⟨Option.some ⟨g,0,none⟩,cap,hv,⟨rfl,h3,h4,by simp,fun i hi=>⟨g,0,rfl,?_⟩⟩,?_⟩
  ·have hl:l.length*1=l.length:=by omega
   have:w.cell? ⟨g,i,none⟩=(l.map (Value.int .u8))[i]?:=World.ownsRow.cellAt (base:=base) (e:=e) (size:=1) (n:=l.length) (cap:=cap) ⟨h1,.inr ⟨g,cap,cur,rfl,hg,hh,h3,h4,h5,h6⟩⟩ i (by omega)
   rw [Nat.zero_add,this]
   simp [List.getD,List.getElem?_eq_getElem hi]
  ·intro k hk
   simp [blk] at hk;subst hk
   exact ⟨hg,lt_of_at hh,by rw [hv];rfl⟩
theorem Sl.take {w:World}{ao:Option Addr}{n c:Nat}{l:List Int}(hs:Sl w ao n c l) {k:Nat}(hk:k≤n):Sl w ao k c (l.take k):=by
 obtain ⟨h1,h2,h3,h4,h5⟩:=hs
 refine ⟨by simp;omega,by omega,h3,h4,fun i hi=>?_⟩
 obtain ⟨b,o,e,hc⟩:=h5 i (by omega)
 exact ⟨b,o,e,by rw [hc];simp [List.getD,hi]⟩
theorem Sl.drop {w:World}{ao:Option Addr}{n c:Nat}{l:List Int}(hs:Sl w ao n c l) {k:Nat}(hk:k≤n):Sl w (Option.map (fun x=>x.add k) ao) (n - k) (c - k) (l.drop k):=by
 obtain ⟨h1,h2,h3,h4,h5⟩:=hs
 refine ⟨by simp;omega,by omega,by omega,fun h=>?_,fun i hi=>?_⟩
 ·cases ao with
  | none=>have:=h4 rfl;omega
  | some a=>simp at h
 obtain ⟨b,o,e,hc⟩:=h5 (k+i) (by omega)
 refine ⟨b,o+k,by rw [e];by_cases hk0:k=0 <;> simp [Addr.add,hk0],?_⟩
 rw [Nat.add_assoc,hc]
 simp [List.getD,List.getElem?_drop]
theorem Sl.drop_all {w:World}{ao:Option Addr}{n c:Nat}{l:List Int}(hs:Sl w ao n c l) {k:Nat}(hk:n≤k):Sl w ao (n - k) 0 (l.drop k):=by
 obtain ⟨h1,h2,h3,h4,h5⟩:=hs
 refine ⟨by simp;omega,by omega,Nat.zero_le _,fun _=>rfl,fun i hi=>by omega⟩
theorem blk_add (ao:Option Addr) (k:Nat):blk (Option.map (fun x=>x.add k) ao)=blk ao:=by
 cases ao with
 | none=>rfl
 | some a=>by_cases hk0:k=0 <;> simp [blk,Addr.add,hk0]
theorem Sl.kept' {S:List Nat}{a w:World}(h:Kept S a w) {ao:Option Addr}{n c:Nat}{l:List Int}(hs:Sl a ao n c l) (hS:0 < n→∀ k∈blk ao,k ∉ S):Sl w ao n c l:=by
 obtain ⟨h1,h2,h3,h4,h5⟩:=hs
 refine ⟨h1,h2,h3,h4,fun i hi=>?_⟩
 obtain ⟨b,o,e,hc⟩:=h5 i hi
 exact ⟨b,o,e,h.cell hc (hS (by omega) b (by rw [e];simp [blk]))⟩
theorem Sl.lt {w:World}{ao:Option Addr}{n c:Nat}{l:List Int}(hs:Sl w ao n c l) (hn:0 < n):∀ k∈blk ao,k < w.heap.size:=by
 obtain ⟨b,o,rfl,hc⟩:=hs.some hn
 intro k hk
 simp [blk] at hk
 subst hk
 have h0:=hc 0 hn
 unfold World.cell? at h0
 by_cases hlt:k < w.heap.size
 ·exact hlt
 ·rw [show w.heap[(⟨k,o+0,none⟩:Addr).block]?=none from Array.getElem?_eq_none (by show w.heap.size≤k;omega)] at h0;simp at h0
theorem Sl.of_owns' {w:World}{base e:Nat}{v:Value}{l:List Int}(ho:w.ownsRow base e 1 v l.length (l.map (Value.int .u8))) :
 ∃ ao n c,v=.slice ao n c∧Sl w ao n c l∧(∀ k∈blk ao,base≤k∧k < w.heap.size∧v.ownBlock=Option.some k):=by
 obtain ⟨ao,c,h1,h2,h3⟩:=Sl.of_owns ho
 exact ⟨ao,l.length,c,h1,h2,h3⟩
theorem Sl.cut {w:World}{ao:Option Addr}{n c:Nat}{l:List Int}(hs:Sl w ao n c l) {k m:Nat}(hk:0 < k) (h:k≤m) (hm:m≤n):Sl w (Option.map (fun x=>({ block:=x.block,off:=x.off+k }:Addr)) ao) (m - k) (c - k) ((l.take m).drop k):=by
 have h1:=(hs.take hm).drop h
 have e:(fun x:Addr=>x.add k)=fun x=>({ block:=x.block,off:=x.off+k }:Addr):=by
  funext x
  have:k≠0:=by omega
  simp [Addr.add,this]
 rw [e] at h1
 exact h1
theorem blk_cut (ao:Option Addr) (k:Nat):blk (Option.map (fun x=>({ block:=x.block,off:=x.off+k }:Addr)) ao)=blk ao:=by
 cases ao <;> simp [blk]
theorem Sl.lit {w:World}{vs:Array Value}{t:TypeId}{mk:Nat × Nat}{n:Nat}{l:List Int}(hn:l.length=n) (h:vs=(l.map (Value.int .u8)).toArray) (hb:n≤maxLen):Sl (w.alloc (.cells vs t mk)) (Option.some ⟨w.heap.size,0,none⟩) n n l:=by
 subst hn;subst h
 refine ⟨rfl,Nat.le_refl _,hb,by simp,fun i hi=>⟨w.heap.size,0,rfl,?_⟩⟩
 rw [World.cell?_alloc_mark]
 simp [List.getD,List.getElem?_eq_getElem hi]
end Go.Proofs.Yteiagkjhmhllnaa
