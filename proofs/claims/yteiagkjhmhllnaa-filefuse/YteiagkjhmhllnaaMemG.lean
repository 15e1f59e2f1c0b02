/-
  Memory: what stays and what turns; over any program.
-/
import Derived.Test.YteiagkjhmhllnaaBase
import Derived.Test.YteiagkjhmhllnaaPaStr
import Derived.Test.YteiagkjhmhllnaaApp
import Derived.Test.YteiagkjhmhllnaaProg
import Derived.Deep.AppendLies
import Derived.Deep.Draws
import Derived.Laws.OwnMore
import Derived.Deep.QuietTactic
import Derived.BigQuiet
import Derived.Deep.RegionHeld3
import Derived.Handy
namespace Go.Proofs.Yteiagkjhmhllnaa
open Go.RowKit
theorem hide {p:Prop}(h:p):Hid p:=h
theorem adr_addC (b o i:Nat):(⟨b,o,none⟩:Addr).add i=⟨b,o+i,none⟩:=by
 by_cases h:i=0 <;> simp [Addr.add,h]
theorem cell_inC {w:World}{b k:Nat}{vs:Array Value}{t:TypeId}{v:Value}(h:w.heap[b]?=some (.cells vs t (0,0))) (hv:vs[k]?=some v):w.cell? ⟨b,k,none⟩=some v:=by
 simp [World.cell?,h,hv]
theorem drewN_kept (w:World) (n:Nat):Kept [] w (w.drewN n):=⟨rfl,rfl,rfl,Nat.le_refl _,fun _ _ _=>rfl⟩
def Typed (w:World) (S:List Nat) (Ts:List TypeId):Prop:=∀ k∈S,∀ cur t mk,w.heap[k]?=some (.cells cur t mk)→t∈Ts
theorem typed_nil (w:World) (Ts:List TypeId):Typed w [] Ts:=fun _ h=>by cases h
theorem Kept.typed {S:List Nat}{Ts:List TypeId}{w w':World}(hk:Kept S w w') (hT:Typed w S Ts) {k:Nat}{cur:Array Value}{t:TypeId}{mk:Nat × Nat}(h:w.heap[k]?=some (.cells cur t mk)) (ht:t ∉ Ts):w'.heap[k]?=some (.cells cur t mk) :=
 hk.at h fun hm=>ht (hT k hm _ _ _ h)
theorem row_typed {S:List Nat}{Ts:List TypeId}{w w':World}(hk:Kept S w w') (hT:Typed w S Ts) {B e size n:Nat}{v:Value}{xs:List Value}(h:w.ownsRow B e size v n xs) (ht:e ∉ Ts):w'.ownsRow B e size v n xs:=by
 refine hk.ownsRow h fun k hv hm=>?_
 obtain ⟨_,h2⟩:=h
 rcases h2 with ⟨rfl,_⟩ | ⟨g,cap,cur,rfl,_,hh,_⟩
 ·cases hv
 ·cases hv;exact ht (hT _ hm _ _ _ hh)
theorem mem_own {v:Value}{k:Nat}:k∈v.ownBlock.toList↔v.ownBlock=some k:=by
 cases v.ownBlock <;> simp [eq_comm]
theorem row_block {w:World}{B e size n:Nat}{v:Value}{xs:List Value}(h:w.ownsRow B e size v n xs) {k:Nat}(hk:v.ownBlock=some k):∃ cur,w.heap[k]?=some (.cells cur e (0,0)):=by
 obtain ⟨_,h2⟩:=h
 rcases h2 with ⟨rfl,_⟩ | ⟨g,cap,cur,rfl,_,hh,_⟩
 ·cases hk
 ·cases hk;exact ⟨cur,hh⟩
theorem froz3 {w:World}{b:Nat}{vs:Array Value}{t:TypeId}(h:w.heap[b]?=some (.cells vs t (0,0))) (j:Nat):w.frozen? ⟨b,j,none⟩=false:=by
 simp [World.frozen?,h]
theorem row_mono {w:World}{B B' e size n:Nat}{v:Value}{xs:List Value}(h:w.ownsRow B e size v n xs) (hB:B'≤B):w.ownsRow B' e size v n xs:=by
 obtain ⟨h1,h2⟩:=h
 refine ⟨h1,?_⟩
 rcases h2 with h2 | ⟨g,cap,cur,hv,hg,r⟩
 ·exact .inl h2
 ·exact .inr ⟨g,cap,cur,hv,Nat.le_trans hB hg,r⟩
theorem lay2 (w:World) (a b:Array Value) (t:TypeId):((w.alloc (.cells a t)).alloc (.cells b t)).heap[w.heap.size]?=some (.cells a t (0,0))∧((w.alloc (.cells a t)).alloc (.cells b t)).heap[w.heap.size+1]?=some (.cells b t (0,0)):=by
 refine ⟨(Below.heap_alloc _ _ _ (by simp)).trans (heap_alloc_new w _),?_⟩
 have:=heap_alloc_new (w.alloc (.cells a t)) (.cells b t)
 rw [World.size_alloc] at this
 exact this
theorem typed2 {w:World}{b c:Nat}{t:TypeId}{x y:Array Value}(hb:w.heap[b]?=some (.cells x t (0,0))) (hc:w.heap[c]?=some (.cells y t (0,0))):Typed w [b,c] [t]:=fun k hk cur t' mk hh=>by
 simp at hk
 rcases hk with rfl | rfl
 ·rw [hb] at hh;cases hh;simp
 ·rw [hc] at hh;cases hh;simp
end Go.Proofs.Yteiagkjhmhllnaa
