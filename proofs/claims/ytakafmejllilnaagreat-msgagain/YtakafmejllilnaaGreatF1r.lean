/-
  Texts laid as one.
-/
import Derived.Lib.Bytealg
import Derived.Lib.Strings
import Derived.Lib.Join
import Derived.WalkKit
import Derived.Deep.Draws
import Derived.OneCell
import Derived.Laws.IdiomStrings
import Derived.Lib.CutLaws
import Derived.Laws.AppendOwnNone
/-
 Texts by parts: the parts of a text, their order, what is left of them when "", "." and ".." have done their work: plain functions on lists of bytes, of no program.
-/
namespace Go.Proofs.YtakafmejllilnaaGreat
structure Ch where
 p:List UInt8
 g:Bool
 d:Int
deriving DecidableEq
structure bW where
 r:Int
 b:Int
 n:List UInt8
 c:List Ch
deriving DecidableEq
structure Vt where
 c:Int
 s:Int
 r:Int
 p:List UInt8
 d:Int
 k:List bW
 m:Int
deriving DecidableEq
structure Rq where
 k:Int
 n:List UInt8
 s:Int
 q:Int
 b:Int
 f:List UInt8
 c:List Ch
 p:List UInt8
 fr:Int
 mn:Int
 mb:Int
deriving DecidableEq
structure PH (σ:Type) where
 num:σ→Int→Int × σ
 upTo:σ→Int→Int→Int × σ
 text:σ→List UInt8→List UInt8 × σ
 flag:σ→Bool→Bool × σ
 word:σ→Int→Int × σ
def fd:Ch:=⟨[],false,0⟩
def dp:bW:=⟨0,0,[],[]⟩
def cl:Rq:=⟨0,[],0,0,0,[],[],[],0,0,0⟩
variable {σ : Type}
def bz (P:PH σ) (s:σ) (x:Ch):Ch × σ :=
 if (P.flag (P.text s x.p).2 x.g).1=true then (⟨(P.text s x.p).1,true,0⟩,(P.flag (P.text s x.p).2 x.g).2)
 else (⟨(P.text s x.p).1,false,(P.word (P.flag (P.text s x.p).2 x.g).2 x.d).1⟩,(P.word (P.flag (P.text s x.p).2 x.g).2 x.d).2)
def cf {α:Type}(one:σ→α→α × σ):σ→List α→List α × σ
 | s,[]=>([],s)
 | s,x :: L=>((one s x).1 :: (cf one (one s x).2 L).1,(cf one (one s x).2 L).2)
theorem jo {α:Type}(one:σ→α→α × σ) (s:σ) (L:List α) (x:α) :
 cf one s (L++[x])=((cf one s L).1++[(one (cf one s L).2 x).1],(one (cf one s L).2 x).2):=by
 induction L generalizing s with
 | nil=>rfl
 | cons y L ih=>simp only [List.cons_append,cf,ih]
theorem ex {α:Type}(one:σ→α→α × σ) (s:σ) (L:List α):(cf one s L).1.length=L.length:=by
 induction L generalizing s with
 | nil=>rfl
 | cons y L ih=>simp [cf,ih]
def eN {α:Type}(L:List α) (z:α) (n:Nat):List α:=L.take n++List.replicate (n - L.length) z
theorem jE {α:Type}(L:List α) (z:α) (n:Nat):(eN L z n).length=n:=by simp [eN];omega
theorem qr {α:Type}(L:List α) (z:α):eN L z L.length=L:=by simp [eN]
theorem kP {α:Type}(z:α) (n:Nat):eN [] z n=List.replicate n z:=by simp [eN]
theorem qu {α:Type}(L:List α) (z:α):eN L z 0=[]:=by simp [eN]
def aP {α:Type}(P:PH σ) (one:σ→α→α × σ) (z:α) (s:σ) (L:List α) (most:Int):List α × σ :=
 cf one (P.upTo s L.length most).2 (eN L z (P.upTo s L.length most).1.toNat)
def pl (P:PH σ) (s:σ) (x:bW):σ:=(P.text (P.num (P.num s x.r).2 x.b).2 x.n).2
def cn (P:PH σ) (s:σ) (x:bW):bW × σ :=
 (⟨(P.num s x.r).1,(P.num (P.num s x.r).2 x.b).1,(P.text (P.num (P.num s x.r).2 x.b).2 x.n).1,(aP P (bz P) fd (pl P s x) x.c 64).1⟩,(aP P (bz P) fd (pl P s x) x.c 64).2)
def dB (P:PH σ) (s:σ) (r:Rq):Int:=(P.upTo s r.k 7).1
def et (P:PH σ) (s:σ) (r:Rq):σ:=(P.num (P.num (P.upTo s r.k 7).2 r.s).2 r.q).2
def fF (P:PH σ) (s:σ) (r:Rq):Int:=(P.num (P.upTo s r.k 7).2 r.s).1
def fB (P:PH σ) (s:σ) (r:Rq):Int:=(P.num (P.num (P.upTo s r.k 7).2 r.s).2 r.q).1
def aT (P:PH σ) (s:σ) (r:Rq):Rq × σ :=
 if dB P s r=0 then (⟨dB P s r,[],0,0,0,[],[],[],0,0,0⟩,(P.upTo s r.k 7).2)
 else if dB P s r=1 then (⟨dB P s r,(P.text (P.upTo s r.k 7).2 r.n).1,0,0,0,[],[],[],0,0,0⟩,(P.text (P.upTo s r.k 7).2 r.n).2)
 else if dB P s r=2 then
  (⟨dB P s r,[],fF P s r,fB P s r,(P.num (et P s r) r.b).1,(P.text (P.num (et P s r) r.b).2 r.f).1,(aP P (bz P) fd (P.text (P.num (et P s r) r.b).2 r.f).2 r.c 64).1,[],0,0,0⟩,
    (aP P (bz P) fd (P.text (P.num (et P s r) r.b).2 r.f).2 r.c 64).2)
 else if dB P s r=4 then (⟨dB P s r,[],fF P s r,fB P s r,0,[],[],(P.text (et P s r) r.p).1,0,0,0⟩,(P.text (et P s r) r.p).2)
 else if dB P s r=5 then (⟨dB P s r,[],fF P s r,fB P s r,0,[],[],[],(P.num (et P s r) r.fr).1,(P.num (P.num (et P s r) r.fr).2 r.mn).1,0⟩,(P.num (P.num (et P s r) r.fr).2 r.mn).2)
 else if dB P s r=6∨dB P s r=7 then (⟨dB P s r,[],fF P s r,fB P s r,0,[],[],[],0,0,(P.num (et P s r) r.mb).1⟩,(P.num (et P s r) r.mb).2)
 else (⟨dB P s r,[],fF P s r,fB P s r,0,[],[],[],0,0,0⟩,et P s r)
def ch (P:PH σ) (s:σ) (v:Vt):Int:=(P.upTo s v.c 14).1
def co (P:PH σ) (s:σ) (v:Vt):σ:=(P.upTo s v.c 14).2
def aH (P:PH σ) (s:σ) (v:Vt):Vt × σ :=
 if ch P s v=1 then (⟨ch P s v,(P.num (co P s v) v.s).1,0,[],0,[],0⟩,(P.num (co P s v) v.s).2)
 else if ch P s v=2∨ch P s v=4∨ch P s v=8 then (⟨ch P s v,0,(P.num (co P s v) v.r).1,[],0,[],0⟩,(P.num (co P s v) v.r).2)
 else if ch P s v=3 then (⟨ch P s v,0,(P.num (P.text (co P s v) v.p).2 v.r).1,(P.text (co P s v) v.p).1,0,[],0⟩,(P.num (P.text (co P s v) v.p).2 v.r).2)
 else if ch P s v=9 then (⟨ch P s v,0,(P.num (P.word (P.text (co P s v) v.p).2 v.d).2 v.r).1,(P.text (co P s v) v.p).1,(P.word (P.text (co P s v) v.p).2 v.d).1,[],0⟩,(P.num (P.word (P.text (co P s v) v.p).2 v.d).2 v.r).2)
 else if ch P s v=10 then (⟨ch P s v,0,0,(P.text (co P s v) v.p).1,0,[],0⟩,(P.text (co P s v) v.p).2)
 else if ch P s v=11 then (⟨ch P s v,0,0,[],0,(aP P (cn P) dp (co P s v) v.k 32).1,0⟩,(aP P (cn P) dp (co P s v) v.k 32).2)
 else if ch P s v=12∨ch P s v=13∨ch P s v=14 then (⟨ch P s v,0,0,[],0,[],(P.num (co P s v) v.m).1⟩,(P.num (co P s v) v.m).2)
 else (⟨ch P s v,0,0,[],0,[],0⟩,co P s v)
end Go.Proofs.YtakafmejllilnaaGreat
namespace Go.Proofs.YtakafmejllilnaaGreat
open Go.RowKit
structure ab (S:List Nat) (w w':World):Prop where
 os:w'.os=w.os
 tape:w'.tape=w.tape
 output:w'.output=w.output
 size:w.heap.size≤w'.heap.size
 block:∀ k,k < w.heap.size→k ∉ S→w'.heap[k]?=w.heap[k]?
theorem ab.refl (S:List Nat) (w:World):ab S w w:=⟨rfl,rfl,rfl,Nat.le_refl _,fun _ _ _=>rfl⟩
theorem ab.trans {S T:List Nat}{a b c:World}(h:ab S a b) (k:ab T b c) (hT:∀ i∈T,i∈S∨a.heap.size≤i):ab S a c :=
 ⟨k.os.trans h.os,k.tape.trans h.tape,k.output.trans h.output,Nat.le_trans h.size k.size,fun i hi hS=>by
  rw [k.block i (Nat.lt_of_lt_of_le hi h.size) (fun hm=>by rcases hT i hm with h1 | h1;exact hS h1;omega),h.block i hi hS]⟩
theorem ab.mono {S T:List Nat}{a b:World}(h:ab S a b) (hT:∀ i∈S,i∈T∨a.heap.size≤i):ab T a b :=
 (ab.refl T a).trans h hT
theorem ab.drew {S:List Nat}{a w:World}(h:ab S a w):ab S a w.drew:=⟨h.os,h.tape,h.output,h.size,h.block⟩
theorem ab.alloc {S:List Nat}{a w:World}(h:ab S a w) (o:Obj):ab S a (w.alloc o) :=
 h.trans (T:=[]) ⟨rfl,rfl,rfl,by simp,fun k hk _=>Below.heap_alloc _ _ _ hk⟩ (by simp)
theorem ab.setCell {S:List Nat}{a w:World}(h:ab S a w) {p:Addr}(hp:p.block∈S∨a.heap.size≤p.block) (u:Value):ab S a (w.setCell p u) :=
 h.trans (T:=[p.block]) ⟨rfl,rfl,rfl,by simp [World.setCell],fun k _ hk=>Below.heap_setCell _ _ _ _ (by simpa using hk)⟩ (by simpa using hp)
theorem ab.grown {S:List Nat}{a w w':World}{row:Option Nat}(h:ab S a w) (hg:w.grownBy w' row) (hr:∀ k,row=some k→k∈S∨a.heap.size≤k):ab S a w' :=
 ⟨hg.os.trans h.os,hg.tape.trans h.tape,hg.output.trans h.output,Nat.le_trans h.size hg.size,fun i hi hS=>by
  rw [hg.block i (Nat.lt_of_lt_of_le hi h.size) (fun e=>by rcases hr i e.symm with h1 | h1;exact hS h1;omega),h.block i hi hS]⟩
theorem ab.drewN {S:List Nat}{a w:World}(h:ab S a w) (n:Nat):ab S a (w.drewN n):=⟨h.os,h.tape,h.output,h.size,h.block⟩
theorem ab.below {S:List Nat}{a w:World}(h:ab S a w) {B:Nat}(hB:B≤a.heap.size) (hS:∀ i∈S,B≤i):Below B a w :=
 ⟨h.os,h.tape,h.output,h.size,fun k hk=>h.block k (by omega) (fun hm=>by have:=hS k hm;omega)⟩
theorem ab.cell {S:List Nat}{a w:World}(h:ab S a w) {p:Addr}{v:Value}(hc:a.cell? p=some v) (hS:p.block ∉ S):w.cell? p=some v:=by
 have hb:p.block < a.heap.size:=by
  unfold World.cell? at hc;by_cases hlt:p.block < a.heap.size
  ·exact hlt
  ·rw [Array.getElem?_eq_none (by omega)] at hc;simp at hc
 rw [← hc];exact World.cell?_of_block (w:=a) (h.block _ hb hS)
theorem ab.at {S:List Nat}{a w:World}(h:ab S a w) {k:Nat}{o:Obj}(hc:a.heap[k]?=some o) (hS:k ∉ S):w.heap[k]?=some o:=by
 have hb:k < a.heap.size:=by
  by_cases hlt:k < a.heap.size
  ·exact hlt
  ·rw [Array.getElem?_eq_none (by omega)] at hc;simp at hc
 rw [← hc];exact h.block _ hb hS
theorem bZ {w:World}{k:Nat}{o:Obj}(hc:w.heap[k]?=some o):k < w.heap.size:=by
 by_cases hlt:k < w.heap.size
 ·exact hlt
 ·rw [Array.getElem?_eq_none (by omega)] at hc;simp at hc
theorem ab.ownsRow {S:List Nat}{a w:World}(h:ab S a w) {base:Nat}{e:TypeId}{size:Nat}{v:Value}{n:Nat}{xs:List Value}
 (ho:a.ownsRow base e size v n xs) (hS:∀ k,v.ownBlock=some k→k ∉ S):w.ownsRow base e size v n xs:=by
 obtain ⟨h1,h2⟩:=ho;refine ⟨h1,?_⟩;rcases h2 with h2 | ⟨g,cap,cur,hv,hg,hh,r⟩
 ·exact .inl h2
 ·exact .inr ⟨g,cap,cur,hv,hg,h.at hh (hS g (by rw [hv];rfl)),r⟩
def Sl (w:World) (ao:Option Addr) (n c:Nat) (l:List Int):Prop :=
 l.length=n∧n≤c∧c≤maxLen∧(ao=none→c=0)∧∀ i,i < n→∃ b o,ao=some ⟨b,o,none⟩∧w.cell? ⟨b,o+i,none⟩=some (.int .u8 (l.getD i 0))
def bO:Option Addr→List Nat
 | some a=>[a.block]
 | none=>[]
theorem Sl.nil (w:World):Sl w none 0 0 []:=⟨rfl,Nat.le_refl _,Nat.zero_le _,fun _=>rfl,fun i hi=>by omega⟩
theorem Sl.kept {S:List Nat}{a w:World}(h:ab S a w) {ao:Option Addr}{n c:Nat}{l:List Int}(hs:Sl a ao n c l) (hS:∀ k∈bO ao,k ∉ S):Sl w ao n c l:=by
 obtain ⟨h1,h2,h3,h4,h5⟩:=hs;refine ⟨h1,h2,h3,h4,fun i hi=>?_⟩;obtain ⟨b,o,e,hc⟩:=h5 i hi;exact ⟨b,o,e,h.cell hc (hS b (by rw [e];simp [bO]))⟩
theorem Sl.some {w:World}{ao:Option Addr}{n c:Nat}{l:List Int}(hs:Sl w ao n c l) (hn:0 < n) :
 ∃ b o,ao=some ⟨b,o,none⟩∧∀ i,i < n→w.cell? ⟨b,o+i,none⟩=some (.int .u8 (l.getD i 0)):=by
 obtain ⟨h1,h2,h3,h4,h5⟩:=hs;obtain ⟨b,o,e,_⟩:=h5 0 hn;refine ⟨b,o,e,fun i hi=>?_⟩;obtain ⟨b',o',e',hc⟩:=h5 i hi;rw [e] at e';cases e';exact hc
theorem Sl.of_owns {w:World}{base e:Nat}{v:Value}{l:List Int}(ho:w.ownsRow base e 1 v l.length (l.map (Value.int .u8))) :
 ∃ ao c,v=.slice ao l.length c∧Sl w ao l.length c l∧(∀ k∈bO ao,base≤k∧k < w.heap.size∧v.ownBlock=Option.some k):=by
 obtain ⟨h1,h2⟩:=ho;rcases h2 with ⟨hv,hn⟩ | ⟨g,cap,cur,hv,hg,hh,h3,h4,h5,h6⟩
 ·refine ⟨none,0,by rw [hv,hn],?_,by simp [bO]⟩;have:l=[]:=by simpa using hn
  subst this;exact Sl.nil w
 ·refine ⟨Option.some ⟨g,0,none⟩,cap,hv,⟨rfl,h3,h4,by simp,fun i hi=>⟨g,0,rfl,?_⟩⟩,?_⟩
  ·have hl:l.length*1=l.length:=by omega
   have:w.cell? ⟨g,i,none⟩=(l.map (Value.int .u8))[i]?:=World.ownsRow.cellAt (base:=base) (e:=e) (size:=1) (n:=l.length) (cap:=cap) ⟨h1,.inr ⟨g,cap,cur,rfl,hg,hh,h3,h4,h5,h6⟩⟩ i (by omega)
   rw [Nat.zero_add,this];simp [List.getD,List.getElem?_eq_getElem hi]
  ·intro k hk;simp [bO] at hk;subst hk
   exact ⟨hg,bZ hh,by rw [hv];rfl⟩
theorem Sl.take {w:World}{ao:Option Addr}{n c:Nat}{l:List Int}(hs:Sl w ao n c l) {k:Nat}(hk:k≤n):Sl w ao k c (l.take k):=by
 obtain ⟨h1,h2,h3,h4,h5⟩:=hs;refine ⟨by simp;omega,by omega,h3,h4,fun i hi=>?_⟩;obtain ⟨b,o,e,hc⟩:=h5 i (by omega);exact ⟨b,o,e,by rw [hc];simp [List.getD,hi]⟩
theorem Sl.drop {w:World}{ao:Option Addr}{n c:Nat}{l:List Int}(hs:Sl w ao n c l) {k:Nat}(hk:k≤n):Sl w (Option.map (fun x=>x.add k) ao) (n - k) (c - k) (l.drop k):=by
 obtain ⟨h1,h2,h3,h4,h5⟩:=hs;refine ⟨by simp;omega,by omega,by omega,fun h=>?_,fun i hi=>?_⟩
 ·cases ao with
  | none=>have:=h4 rfl;omega
  | some a=>simp at h
 obtain ⟨b,o,e,hc⟩:=h5 (k+i) (by omega);refine ⟨b,o+k,by rw [e];by_cases hk0:k=0 <;> simp [Addr.add,hk0],?_⟩;rw [Nat.add_assoc,hc];simp [List.getD,List.getElem?_drop]
theorem Sl.drop_all {w:World}{ao:Option Addr}{n c:Nat}{l:List Int}(hs:Sl w ao n c l) {k:Nat}(hk:n≤k):Sl w ao (n - k) 0 (l.drop k):=by
 obtain ⟨h1,h2,h3,h4,h5⟩:=hs;refine ⟨by simp;omega,by omega,Nat.zero_le _,fun _=>rfl,fun i hi=>by omega⟩
theorem l9 (ao:Option Addr) (k:Nat):bO (Option.map (fun x=>x.add k) ao)=bO ao:=by
 cases ao with
 | none=>rfl
 | some a=>by_cases hk0:k=0 <;> simp [bO,Addr.add,hk0]
theorem Sl.kept' {S:List Nat}{a w:World}(h:ab S a w) {ao:Option Addr}{n c:Nat}{l:List Int}(hs:Sl a ao n c l) (hS:0 < n→∀ k∈bO ao,k ∉ S):Sl w ao n c l:=by
 obtain ⟨h1,h2,h3,h4,h5⟩:=hs;refine ⟨h1,h2,h3,h4,fun i hi=>?_⟩;obtain ⟨b,o,e,hc⟩:=h5 i hi;exact ⟨b,o,e,h.cell hc (hS (by omega) b (by rw [e];simp [bO]))⟩
theorem Sl.lt {w:World}{ao:Option Addr}{n c:Nat}{l:List Int}(hs:Sl w ao n c l) (hn:0 < n):∀ k∈bO ao,k < w.heap.size:=by
 obtain ⟨b,o,rfl,hc⟩:=hs.some hn;intro k hk;simp [bO] at hk
 subst hk;have h0:=hc 0 hn;unfold World.cell? at h0;by_cases hlt:k < w.heap.size
 ·exact hlt
 ·rw [show w.heap[(⟨k,o+0,none⟩:Addr).block]?=none from Array.getElem?_eq_none (by show w.heap.size≤k;omega)] at h0;simp at h0
theorem Sl.of_owns' {w:World}{base e:Nat}{v:Value}{l:List Int}(ho:w.ownsRow base e 1 v l.length (l.map (Value.int .u8))) :
 ∃ ao n c,v=.slice ao n c∧Sl w ao n c l∧(∀ k∈bO ao,base≤k∧k < w.heap.size∧v.ownBlock=Option.some k):=by
 obtain ⟨ao,c,h1,h2,h3⟩:=Sl.of_owns ho;exact ⟨ao,l.length,c,h1,h2,h3⟩
theorem Sl.cut {w:World}{ao:Option Addr}{n c:Nat}{l:List Int}(hs:Sl w ao n c l) {k m:Nat}(hk:0 < k) (h:k≤m) (hm:m≤n):Sl w (Option.map (fun x=>({ block:=x.block,off:=x.off+k }:Addr)) ao) (m - k) (c - k) ((l.take m).drop k):=by
 have h1:=(hs.take hm).drop h
 have e:(fun x:Addr=>x.add k)=fun x=>({ block:=x.block,off:=x.off+k }:Addr):=by
  funext x
  have:k≠0:=by omega
  simp [Addr.add,this]
 rw [e] at h1;exact h1
theorem Sl.lit {w:World}{vs:Array Value}{t:TypeId}{mk:Nat × Nat}{n:Nat}{l:List Int}(hn:l.length=n) (h:vs=(l.map (Value.int .u8)).toArray) (hb:n≤maxLen):Sl (w.alloc (.cells vs t mk)) (Option.some ⟨w.heap.size,0,none⟩) n n l:=by
 subst hn;subst h;refine ⟨rfl,Nat.le_refl _,hb,by simp,fun i hi=>⟨w.heap.size,0,rfl,?_⟩⟩;rw [World.cell?_alloc_mark];simp [List.getD,List.getElem?_eq_getElem hi]
def ae (l:List UInt8):ByteArray:=⟨l.toArray⟩
theorem aY (l:List UInt8):(ae l).data.toList=l:=by simp [ae]
theorem dr (l:List UInt8):(ae l).size=l.length:=by rw [Lib.size_eq,aY]
theorem uA {a b:List UInt8}(h:ae a=ae b):a=b:=by rw [← aY a,h,aY]
variable {P : Program} (w : World)
theorem mj (base:Nat) (t ty e:TypeId) (i:TypeInfo) (z:Value) (size bytes:Nat) (ht:P.underlying t=some (.slice e)) (hi:P.info? e=some i) (hz:i.zero=some z)
 (hsize:i.size=size) (hby:i.bytes=bytes) (hzs:z.cells.size=size) (hsz:0 < size)
 (v:Value) (n:Nat) (xs:List Value) (hown:w.ownsRow base e size v n xs)
 (a:Addr) (m c:Nat) (news:List Value) (hl:news.length=m*size) (hnews:∀ j u,news[j]?=some u→w.cell? (a.add j)=some u) (h1:∀ u∈news,u.oneCell'=true)
 (h63:n+m≤maxLen) (hbytes:(n+m)*bytes≤140737488355328)
 (v':Value) (w':World) (hr:(Builtin.append_ #[t,t] ty #[v,.slice (some a) m c]).run P w=.ok v' w') :
 ∀ k,v'.ownBlock=some k→v.ownBlock=some k∨w.heap.size≤k:=by
 intro k hk;rcases hown.2 with ⟨rfl,rfl⟩ | ⟨g,cap,cur,rfl,hbg,hg,hnc,hcm,hcs,htake⟩
 ·have hx:xs=[]:=List.eq_nil_of_length_eq_zero (by simpa using hown.1);subst hx;obtain ⟨v2,w2,hr2,ho2,_⟩:=run_append_own (P:=P) w w.heap.size t ty e i z size bytes ht hi hz hsize hby hzs hsz _ _ _ (World.ownsRow_nil w w.heap.size e size) a m c news hl hnews h1 h63 hbytes (Nat.le_refl _);rw [hr] at hr2;obtain ⟨rfl,rfl⟩:v'=v2∧w'=w2:=by simpa using hr2
  exact .inr (ho2.lt k hk).1
 ·subst hsize;by_cases hroom:n+m≤cap
  ·have hfit:n*i.size+news.length≤cur.size:=by rw [hl,hcs,← Nat.add_mul];exact Nat.mul_le_mul_right _ hroom
   have hr2:=run_append_room (P:=P) w t ty e i ht hi g n cap cur hg a m c news hl hnews h1 hroom hfit;rw [hr2] at hr;have:v'=.slice (some ⟨g,0,none⟩) (n+m) cap:=by simp at hr;exact hr.1.symm
   subst this;exact .inl hk
  ·have hr2:=run_append_grow (P:=P) w t ty e i z ht hi hz ⟨g,0,none⟩ n cap xs hown.1 (hown.cells (g:=g) rfl) a m c news hl hnews (by omega) (by unfold maxLen at h63;omega) (growslice_fits (by omega) (by rw [hby];exact hbytes));rw [hr2] at hr;have:v'.ownBlock=some w.heap.size:=by simp at hr;rw [← hr.1];rfl
   rw [this] at hk;cases hk;exact .inr (Nat.le_refl _)
theorem de {ops:Array Oper}{rest:List Oper}{o:Oper}{a:Act}{Q:Exit→Act→World→Prop}(hgd:o.guard=none) (s x:Operand) (t:TypeId)
 (ho:o.op=.call { callee:=.builtin .append,args:=#[s,x],argTypes:=#[t,t] })
 (e:TypeId) (i:TypeInfo) (z:Value) (size bytes:Nat) (ht:P.underlying t=some (.slice e)) (hi:P.info? e=some i) (hz:i.zero=some z)
 (hsize:i.size=size) (hby:i.bytes=bytes) (hzs:z.cells.size=size) (hsz:0 < size)
 (v:Value) (n:Nat) (xs:List Value) (hs:a.eval s=v) (hown:w.ownsRow 0 e size v n xs)
 (ad:Addr) (m c:Nat) (news:List Value) (hx:a.eval x=.slice (some ad) m c) (hl:news.length=m*size) (hnews:∀ j u,news[j]?=some u→w.cell? (ad.add j)=some u) (h1:∀ u∈news,u.oneCell'=true)
 (h63:n+m≤maxLen) (hbytes:(n+m)*bytes≤140737488355328)
 (h:∀ v' w',w'.ownsRow 0 e size v' (n+m) (xs++news)→w.grownBy w' v.ownBlock→(∀ k,v'.ownBlock=some k→v.ownBlock=some k∨w.heap.size≤k)→wpList P ops Q rest (a.put o.dst v') w'):wpList P ops Q (o :: rest) a w :=
 wpList_plain hgd fun _ hK=>by
  obtain ⟨v',w',hr,h2,h3,h4⟩:=run_append_own (P:=P) w 0 t o.type e i z size bytes ht hi hz hsize hby hzs hsz v n xs hown ad m c news hl hnews h1 h63 hbytes (Nat.zero_le _);have h5:=mj (P:=P) w 0 t o.type e i z size bytes ht hi hz hsize hby hzs hsz v n xs hown ad m c news hl hnews h1 h63 hbytes v' w' hr;unfold Oper.wp execOp;simp only [ho,resolve,invoke,builtin,Sem.run_bind,Sem.run_pure,Result.andThen_ok,List.map_toArray,List.map_cons,List.map_nil,hs,hx,hr];exact hK _ _ (h v' w' h2 h3 h5)
end Go.Proofs.YtakafmejllilnaaGreat
namespace Go.Proofs.YtakafmejllilnaaGreat
def fq:Nat→Nat→Int→List Int→Int × Int × List Int
 | 0,_,_,_=>(4,0,[])
 | _+1,_,_,[]=>(2,0,[])
 | f+1,i,acc,d :: l =>
   if 128≤d then fq f (i+1) (acc+d % 128*2 ^ (7*i)) l
   else if (d=0∧0 < i)∨1099511627776 < acc+d % 128*2 ^ (7*i) then (4,0,[])
   else (0,acc+d % 128*2 ^ (7*i),l)
def bm (l:List Int):Int × Int × List Int:=fq 6 0 0 l
def bi (l:List Int):Prop:=∀ x∈l,0≤x∧x < 256
theorem bi.tail {d:Int}{l:List Int}(h:bi (d :: l)):bi l:=fun x hx=>h x (List.mem_cons_of_mem _ hx)
theorem bi.head {d:Int}{l:List Int}(h:bi (d :: l)):0≤d∧d < 256:=h d (List.mem_cons_self ..)
theorem bi.drop {l:List Int}(h:bi l) (k:Nat):bi (l.drop k):=fun x hx=>h x (List.mem_of_mem_drop hx)
theorem bi.take {l:List Int}(h:bi l) (k:Nat):bi (l.take k):=fun x hx=>h x (List.mem_of_mem_take hx)
def enc:Nat→Int→List Int
 | 0,n=>[n]
 | f+1,n=>if 128≤n then (n % 128+128) :: enc f (n / 128) else [n]
def ap (n:Int):List Int:=enc 5 n
theorem ju (f:Nat) (n:Int) (h:n < 128):enc f n=[n]:=by
 cases f with
 | zero=>rfl
 | succ f=>rw [enc,if_neg (by omega)]
theorem jk (f:Nat) (n:Int) (h:128≤n):enc (f+1) n=(n % 128+128) :: enc f (n / 128):=by
 rw [enc,if_pos h]
theorem dO (f:Nat) (n:Int):(enc f n).length≤f+1:=by
 induction f generalizing n with
 | zero=>simp [enc]
 | succ f ih =>
   rw [enc];split
   ·have:=ih (n / 128);simp;omega
   ·simp
theorem tD (f:Nat) (n:Int) (h0:0≤n) (h1:n < 128 ^ (f+1)):bi (enc f n):=by
 induction f generalizing n with
 | zero=>intro x hx;simp [enc] at hx;subst hx;simp at h1;omega
 | succ f ih =>
   rw [enc];split
   ·intro x hx;rcases List.mem_cons.1 hx with rfl | hx
    ·omega
    ·refine ih (n / 128) (by omega) ?_ x hx;rw [Int.pow_succ] at h1;exact Int.ediv_lt_of_lt_mul (by decide) h1
   ·intro x hx;simp at hx;subst hx;omega
theorem uV (f i:Nat) (acc n:Int) (l:List Int) (h0:0≤n) (h1:n < 128 ^ (f+1)) (ha:0≤acc) (hM:acc+n*2 ^ (7*i)≤1099511627776) (hz:n=0→i=0) :
 fq (f+1) i acc (enc f n++l)=(0,acc+n*2 ^ (7*i),l):=by
 induction f generalizing i acc n with
 | zero =>
   simp at h1
   have e:n % 128=n:=by omega
   rw [enc];show fq (0+1) i acc (n :: l)=_;rw [fq,if_neg (by omega),e,if_neg (by omega)]
 | succ f ih =>
   by_cases h:128≤n
   ·rw [jk _ _ h];show fq (f+1+1) i acc ((n % 128+128) :: (enc f (n / 128)++l))=_;rw [fq,if_pos (by omega)];have e:(n % 128+128) % 128=n % 128:=by omega
    have e2:(2:Int) ^ (7*(i+1))=128*2 ^ (7*i):=by rw [show 7*(i+1)=7+7*i by omega,Int.pow_add];rfl
    have hp:(0:Int) < 2 ^ (7*i):=Int.pow_pos (by decide)
    have e3:acc+n % 128*2 ^ (7*i)+n / 128*2 ^ (7*(i+1))=acc+n*2 ^ (7*i):=by
     rw [e2];have h4:n=n / 128*128+n % 128:=by omega
     generalize (2:Int) ^ (7*i)=P;have h5:n*P=(n / 128*128+n % 128)*P:=by rw [← h4]
     rw [h5,Int.add_mul,Int.mul_assoc];omega
    rw [e,ih (i+1) (acc+n % 128*2 ^ (7*i)) (n / 128) (by omega) ?_ ?_ (by rw [e3];exact hM) (by omega),e3]
    ·rw [Int.pow_succ] at h1;exact Int.ediv_lt_of_lt_mul (by decide) h1
    ·have:0≤n % 128*2 ^ (7*i):=Int.mul_nonneg (by omega) (by omega)
     omega
   ·rw [ju _ _ (by omega)];have e:n % 128=n:=by omega
    show fq (f+1+1) i acc (n :: l)=_;rw [fq,if_neg (by omega),e,if_neg (by omega)]
theorem qq (n:Int) (l:List Int) (h0:0≤n) (h1:n≤1099511627776):bm (ap n++l)=(0,n,l):=by
 have:=uV 5 0 0 n l h0 (by omega) (by omega) (by omega) (by omega)
 simpa [bm,ap] using this
theorem iM (acc d:Int) (k:Nat) (h0:0≤acc) (h1:acc < 2 ^ (7*k)):0≤acc+d % 128*2 ^ (7*k)∧acc+d % 128*2 ^ (7*k) < 2 ^ (7*(k+1)):=by
 have hp:(0:Int) < 2 ^ (7*k):=Int.pow_pos (by decide);have e:(2:Int) ^ (7*(k+1))=2 ^ (7*k)*128:=by rw [show 7*(k+1)=7*k+7 by omega,Int.pow_add];rfl
 rw [e];generalize (2:Int) ^ (7*k)=P at *;have h2:0≤d % 128:=by omega
 have h3:d % 128≤127:=by omega
 generalize d % 128=m at *;have h4:0≤m*P:=Int.mul_nonneg h2 (by omega);have h5:m*P≤127*P:=Int.mul_le_mul_of_nonneg_right h3 (by omega);omega
theorem tP (f i:Nat) (acc x:Int) (l rest:List Int) (ho:bi l) (h:fq f i acc l=(0,x,rest)) (ha:0≤acc) (hM:acc < 2 ^ (7*i)) :
 ∃ m,0≤m∧x=acc+m*2 ^ (7*i)∧(0 < i→m≠0)∧∃ g,g+1=f∧l=enc g m++rest:=by
 induction f generalizing i acc l with
 | zero=>simp [fq] at h
 | succ f ih =>
   cases l with
   | nil=>simp [fq] at h
   | cons d l =>
     have hd:=ho.head;rw [fq] at h;split at h
     ·obtain ⟨m,hm0,hmx,hmz,g,hg,hl⟩:=ih (i+1) _ l ho.tail h (iM acc d i ha hM).1 (iM acc d i ha hM).2;refine ⟨m*128+d % 128,by omega,?_,?_,g+1,by omega,?_⟩
      ·have e2:(2:Int) ^ (7*(i+1))=128*2 ^ (7*i):=by rw [show 7*(i+1)=7+7*i by omega,Int.pow_add];rfl
       rw [hmx,e2];generalize (2:Int) ^ (7*i)=P;rw [Int.add_mul,Int.mul_assoc];omega
      ·intro _;have:=hmz (by omega);omega
      ·have hm1:m≠0:=hmz (by omega);rw [jk g _ (by omega),hl];have e1:(m*128+d % 128) / 128=m:=by omega
       have e3:(m*128+d % 128) % 128+128=d:=by omega
       rw [e1,e3];rfl
     ·split at h
      ·simp at h
      ·rename_i h1 h2
       simp at h
       refine ⟨d,by omega,?_,?_,f,rfl,?_⟩
       ·rw [← h.1];congr 2;omega
       ·intro hi hz;exact h2 (.inl ⟨hz,hi⟩)
       ·rw [ju _ _ (by omega),h.2];rfl
theorem fw (x:Int) (l rest:List Int) (ho:bi l) (h:bm l=(0,x,rest)):0≤x∧x≤1099511627776∧l=ap x++rest:=by
 obtain ⟨m,h1,h2,_,g,hg,h3⟩:=tP 6 0 0 x l rest ho h (by omega) (by decide);simp at h2
 obtain rfl:g=5:=by omega
 subst h2;refine ⟨h1,?_,h3⟩
 have:∀ f i acc l,fq f i acc l=(0,x,rest)→x≤1099511627776:=by
  intro f;induction f with
  | zero=>intro i acc l h;simp [fq] at h
  | succ f ih =>
    intro i acc l h;cases l with
    | nil=>simp [fq] at h
    | cons d l =>
      rw [fq] at h;split at h
      ·exact ih _ _ _ h
      ·split at h
       ·simp at h
       ·simp at h;omega
 exact this 6 0 0 l h
open Go.RowKit
theorem sC (n:Int) (h₀:0≤n) (h₁:n < 2 ^ 63):IntKind.i64.wrap n=n:=by rw [IntKind.wrap_i64];omega
theorem qB {x:Int}(h₀:0≤x) (h₁:x < 256):bits .and .u8 x 127=x % 128:=bits_mask .u8 8 (by decide) wraps_u8 7 (by decide) x h₀ h₁
theorem qw {x:Int}(h₀:0≤x) (h₁:x < 256):bits .or .u8 x 128=x % 128+128:=by
 have h:=(bits_nat .u8 8 (by decide) wraps_u8 x.toNat 128 (by omega) (by decide)).2;have e:((x.toNat:Nat):Int)=x:=by omega
 rw [e] at h
 have h2:x.toNat ||| 128=x.toNat % 128+128:=by
  have h3:∀ y:Fin 256,y.val ||| 128=y.val % 128+128:=by decide +kernel
  exact h3 ⟨x.toNat,by omega⟩
 rw [h2] at h;have:((128:Nat):Int)=128:=rfl
 rw [this] at h;rw [h];omega
theorem jl (a b i:Nat) (hb:b % 2 ^ i=0) (ha:a < 2 ^ i) (hb2:b < 2 ^ 63) (ha2:a < 2 ^ 63):bits .or .i64 (a:Int) (b:Int)=(a:Int)+b:=by
 have h:=(bits_nat .i64 63 (by decide) sC a b ha2 hb2).2;rw [h,Nat.or_comm,nat_join i b a hb ha];omega
theorem nU (acc d:Int) (k:Nat) (h0:0≤acc) (h1:acc < 2 ^ (7*k)) (hd:0≤d) (hd2:d < 256) (hk:k < 6) :
 bits .or .i64 acc (wrap64 (wrap64 (bits .and .u8 d 127)*2 ^ (7*k)))=acc+d % 128*2 ^ (7*k):=by
 rw [qB hd hd2];obtain ⟨a,rfl⟩:=Int.eq_ofNat_of_zero_le h0;obtain ⟨y,rfl⟩:=Int.eq_ofNat_of_zero_le hd;obtain rfl | rfl | rfl | rfl | rfl | rfl:k=0∨k=1∨k=2∨k=3∨k=4∨k=5:=by omega
 ·have e:wrap64 (wrap64 ((y:Int) % 128)*2 ^ (7*0))=((y % 128*2 ^ 0:Nat):Int):=by unfold wrap64;omega
  rw [e,jl a _ 0 (by omega) (by omega) (by omega) (by omega)];omega
 ·have e:wrap64 (wrap64 ((y:Int) % 128)*2 ^ (7*1))=((y % 128*2 ^ 7:Nat):Int):=by unfold wrap64;omega
  rw [e,jl a _ 7 (by omega) (by omega) (by omega) (by omega)];omega
 ·have e:wrap64 (wrap64 ((y:Int) % 128)*2 ^ (7*2))=((y % 128*2 ^ 14:Nat):Int):=by unfold wrap64;omega
  rw [e,jl a _ 14 (by omega) (by omega) (by omega) (by omega)];omega
 ·have e:wrap64 (wrap64 ((y:Int) % 128)*2 ^ (7*3))=((y % 128*2 ^ 21:Nat):Int):=by unfold wrap64;omega
  rw [e,jl a _ 21 (by omega) (by omega) (by omega) (by omega)];omega
 ·have e:wrap64 (wrap64 ((y:Int) % 128)*2 ^ (7*4))=((y % 128*2 ^ 28:Nat):Int):=by unfold wrap64;omega
  rw [e,jl a _ 28 (by omega) (by omega) (by omega) (by omega)];omega
 ·have e:wrap64 (wrap64 ((y:Int) % 128)*2 ^ (7*5))=((y % 128*2 ^ 35:Nat):Int):=by unfold wrap64;omega
  rw [e,jl a _ 35 (by omega) (by omega) (by omega) (by omega)];omega
def l6:Nat:=3988292384
def bw (x:Nat):Nat:=if x % 2=1 then (x / 2) ^^^ l6 else x / 2
def dY:Nat→Nat→Nat
 | 0,x=>x
 | k+1,x=>bw (dY k x)
def fl (r:Nat) (l:List Int):Nat:=l.foldl (fun r d=>dY 8 (r ^^^ d.toNat)) r
def db (l:List Int):Nat:=4294967295 - fl 4294967295 l
theorem fU (x:Nat) (h:x < 4294967296):bw x < 4294967296:=by
 unfold bw l6;split
 ·exact Nat.xor_lt_two_pow (n:=32) (by omega) (by decide)
 ·omega
theorem jF (r:Nat) (l:List Int) (d:Int):fl r (l++[d])=dY 8 (fl r l ^^^ d.toNat):=by
 unfold fl;rw [List.foldl_append];rfl
theorem pq (x:Nat) (hx:x < 4294967296) (h:x % 2=1):bits .and .u32 (x:Int) 1=1∧bits .xor .u32 ((x:Int) / 2) 3988292384=((bw x:Nat):Int):=by
 constructor
 ·have:=u32_and_nat x 1 hx (by decide)
  rw [nat_mask1,h] at this;exact this
 ·have:=u32_xor_nat (x / 2) 3988292384 (by omega) (by decide)
  have e:bw x=(x / 2) ^^^ 3988292384:=by unfold bw l6;rw [if_pos h]
  rw [e,← this];rfl
theorem nL (x:Nat) (hx:x < 4294967296) (h:x % 2=0):bits .and .u32 (x:Int) 1=0∧(x:Int) / 2=((bw x:Nat):Int):=by
 constructor
 ·have:=u32_and_nat x 1 hx (by decide)
  rw [nat_mask1,h] at this;exact this
 ·have e:bw x=x / 2:=by unfold bw;rw [if_neg (by omega)]
  rw [e];omega
theorem rI (r:Nat) (h:r < 4294967296):4294967295 ^^^ r=4294967295 - r:=by
 have e:(BitVec.allOnes 32 ^^^ BitVec.ofNat 32 r)= ~~~ (BitVec.ofNat 32 r):=BitVec.allOnes_xor;have e2:=congrArg BitVec.toNat e;rw [BitVec.toNat_xor,BitVec.toNat_not,BitVec.toNat_allOnes,BitVec.toNat_ofNat,Nat.mod_eq_of_lt (by omega)] at e2;exact e2
theorem pe (r:Nat) (h:r < 4294967296):bits .xor .u32 IntKind.u32.max (r:Int)=((4294967295 - r:Nat):Int):=by
 have h1:=u32_xor_nat 4294967295 r (by decide) h;rw [rI r h] at h1;exact h1
theorem gO {k:IntKind}{a b:Int}(h:a=b):Ending.returned (.int k a)=.returned (.int k b):=by rw [h]
theorem qT {a b:Bool}(h:a=b):Ending.returned (.bool a)=.returned (.bool b):=by rw [h]
theorem gG (l:List Int):db l≤4294967295:=by unfold db;omega
def dR (many:Nat) (x:Int):List Int:=(List.range many).map fun i=>x / 2 ^ (8*(many - 1 - i)) % 256
theorem a5 (many:Nat) (x:Int):(dR many x).length=many:=by simp [dR]
theorem fg (many:Nat) (x:Int):bi (dR many x):=by
 intro y hy;simp only [dR,List.mem_map] at hy;obtain ⟨i,_,rfl⟩:=hy;omega
theorem rx (many:Nat) (x:Int) (k:Nat) (h:k < many):(dR many x).take (k+1)=(dR many x).take k++[x / 2 ^ (8*(many - 1 - k)) % 256]:=by
 rw [List.take_succ_eq_append_getElem (by rw [a5];exact h)];simp [dR]
def bs (l:List Int):Int:=l.foldl (fun x d=>(x*256 % 18446744073709551616+d)) 0
theorem jg (l:List Int) (d:Int):bs (l++[d])=bs l*256 % 18446744073709551616+d:=by
 unfold bs;rw [List.foldl_append];rfl
theorem o6 (l:List Int) (ho:bi l):0≤bs l∧bs l < 18446744073709551616:=by
 have:∀ (m:List Int),bi m→0≤bs m.reverse∧bs m.reverse < 18446744073709551616:=by
  intro m;induction m with
  | nil=>intro _;decide
  | cons d m ih =>
    intro h;have h1:=ih h.tail;have h2:=h.head;rw [List.reverse_cons,jg];omega
 have h:=this l.reverse (fun x hx=>ho x (by simpa using hx));simpa using h
theorem sm (a b c d:Int) (h:bi [a,b,c,d]):bs [a,b,c,d]=a*16777216+b*65536+c*256+d:=by
 have ha:=h a (by simp);have hb:=h b (by simp);have hc:=h c (by simp);have hd:=h d (by simp);simp only [bs,List.foldl_cons,List.foldl_nil];omega
theorem vv (x:Int):dR 4 x=[x / 16777216 % 256,x / 65536 % 256,x / 256 % 256,x % 256]:=by
 simp [dR,List.range,List.range.loop]
theorem lH (x:Int) (h0:0≤x) (h1:x < 4294967296):bs (dR 4 x)=x:=by
 have:=fg 4 x
 rw [vv] at this ⊢;rw [sm _ _ _ _ this];omega
theorem vm {l:List Int}(h:l.length=4):∃ a b c d,l=[a,b,c,d]:=by
 match l,h with
 | [a,b,c,d],_=>exact ⟨a,b,c,d,rfl⟩
theorem lO (l:List Int) (h:l.length=4) (ho:bi l):0≤bs l∧bs l < 4294967296∧dR 4 (bs l)=l:=by
 obtain ⟨a,b,c,d,rfl⟩:=vm h;have ha:=ho a (by simp);have hb:=ho b (by simp);have hc:=ho c (by simp);have hd:=ho d (by simp);rw [sm _ _ _ _ ho,vv];refine ⟨by omega,by omega,?_⟩;simp only [List.cons.injEq,and_true];omega
def bN (l:List Int):Bool:=bs (l.drop (l.length - 4))==(db (l.take (l.length - 4)):Int)
def ci (l:List Int):List Int:=dR 4 l.length++dR 4 (db (dR 4 l.length))++(l++dR 4 (db l))
def dn (l:List Int):List Int × Int:=if l.length≤1048576 then (ci l,0) else ([],3)
def aE (l:List Int):List Int × Int × Int :=
 if l.length < 8 then ([],0,2) else
 if bN (l.take 8)=false then ([],0,5) else
 if 1048576 < bs (l.take 4) then ([],0,3) else
 if (l.length:Int) < bs (l.take 4)+12 then ([],0,2) else
 if bN ((l.take ((bs (l.take 4)).toNat+12)).drop 8)=false then ([],0,5) else
 ((l.take (8+(bs (l.take 4)).toNat)).drop 8,bs (l.take 4)+12,0)
end Go.Proofs.YtakafmejllilnaaGreat
