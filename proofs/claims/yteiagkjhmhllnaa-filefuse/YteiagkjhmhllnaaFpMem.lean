/-
  The program's disk in memory: a map that leads from names to files, each a box with its bytes.
-/
import Derived.Test.YteiagkjhmhllnaaFpPure
namespace Go.Proofs.Yteiagkjhmhllnaa
open Go.RowKit
structure Pm where
 n:List UInt8
 b:List Int
 l:Nat
 k:Nat
 ao:Option Addr
 c:Nat
def Pm.fl (x:Pm):Fl:=⟨x.n,x.b,x.l⟩
def Pm.v (x:Pm):Value:=.slice x.ao x.b.length x.c
def Pm.p (x:Pm):List UInt8 × Nat:=(x.n,x.k)
def pmB (x:Pm):List Nat:=x.k :: x.v.ownBlock.toList
def blX (X:List Pm):List Nat:=X.flatMap pmB
structure AtP (w:World) (O:List Nat) (p mb:Nat) (q:Int) (d:Dk) (X:List Pm):Prop where
 h:Bx w p 56 [.map (some mb),.int .i64 d.s,.int .i64 q,.bool d.d]
 m:w.ownsMap Try.prog 9 ptR mb X.length (nmD (X.map Pm.p))
 c:∀ x∈X,Bx w x.k 61 [x.v,.int .i64 x.l]
 o:∀ x∈X,Own w x.v x.b
 L:X.map Pm.fl=d.L
 b:O=p :: mb :: blX X
 n:O.Nodup
 s:RisG Pm.n X
 f:max q (-1)=d.f
 z:∀ x∈X,x.n.length≤1000000
def AtQ (w:World) (O:List Nat) (p:Nat) (d:Dk):Prop:=∃ mb q X,AtP w O p mb q d X
def FqP (p:Nat) (w:World) (O:List Nat) (d:Dk) (w':World):Prop:=∃ O',AtQ w' O' p d∧Kept O w w'∧∀ k∈O',k∈O∨w.heap.size≤k
theorem FqP.trans {p:Nat}{w w1 w2:World}{O O1:List Nat}{d2:Dk}(k:Kept O w w1) (hs:∀ k∈O1,k∈O∨w.heap.size≤k) (h:FqP p w1 O1 d2 w2):FqP p w O d2 w2:=by
 obtain ⟨O2,h1,h2,h3⟩:=h
 refine ⟨O2,h1,k.trans h2 hs,fun i hi=>?_⟩
 rcases h3 i hi with h4 | h4
 ·exact hs i h4
 ·have:=k.size;exact .inr (by omega)
theorem map_keptF {S:List Nat}{w w':World}(k:Kept S w w') {P:Program}{kt:TypeId}{R:Value→Option (DataW Unit × List MemPlace)}{b n:Nat}{D:DataW Unit}(h:w.ownsMap P kt R b n D) (hb:b ∉ S):w'.ownsMap P kt R b n D:=by
 obtain ⟨es,clock,h1,h2⟩:=h
 exact ⟨es,clock,k.at h1 hb,h2⟩
theorem pmB_mem {X:List Pm}{x:Pm}(hx:x∈X) {i:Nat}(hi:i∈pmB x):i∈blX X:=List.mem_flatMap.2 ⟨x,hx,hi⟩
theorem pmB_v {x:Pm}{i:Nat}(h:x.v.ownBlock=some i):i∈pmB x:=by unfold pmB;rw [h];simp
theorem pmB_k (x:Pm):x.k∈pmB x:=by unfold pmB;simp
section
variable {w : World} {O : List Nat} {p mb : Nat} {q : Int} {d : Dk} {X : List Pm}
theorem AtP.kept {S:List Nat}{w':World}(h:AtP w O p mb q d X) (k:Kept S w w') (hS:∀ i∈O,i ∉ S):AtP w' O p mb q d X:=by
 have hb:=h.b
 subst hb
 exact ⟨h.h.kept k (hS p (by simp)),map_keptF k h.m (hS mb (by simp)),fun x hx=>(h.c x hx).kept k (hS x.k (by simp [pmB_mem hx (pmB_k x)])),fun x hx=>k.ownsRow (h.o x hx) (fun i hi=>hS i (by simp [pmB_mem hx (pmB_v hi)])),h.L,rfl,h.n,h.s,h.f,h.z⟩
theorem AtQ.kept {S:List Nat}{w':World}(h:AtQ w O p d) (k:Kept S w w') (hS:∀ i∈O,i ∉ S):AtQ w' O p d:=by
 obtain ⟨mb,q,X,h⟩:=h
 exact ⟨mb,q,X,h.kept k hS⟩
theorem AtP.lt (h:AtP w O p mb q d X):∀ k∈O,k < w.heap.size:=by
 intro k hk
 rw [h.b] at hk
 rcases List.mem_cons.1 hk with rfl | hk
 ·exact h.h.lt
 rcases List.mem_cons.1 hk with rfl | hk
 ·exact h.m.lt
 ·obtain ⟨x,hx,hk⟩:=List.mem_flatMap.1 hk
  rcases List.mem_cons.1 hk with rfl | hk
  ·exact (h.c x hx).lt
  ·exact (World.ownsRow.lt (h.o x hx) k (by simpa using hk)).2
theorem AtQ.lt (h:AtQ w O p d):∀ k∈O,k < w.heap.size:=by
 obtain ⟨mb,q,X,h⟩:=h
 exact h.lt
theorem AtP.len (h:AtP w O p mb q d X):X.length=d.L.length:=by rw [← h.L,List.length_map]
theorem AtP.pO (h:AtP w O p mb q d X):p∈O:=by rw [h.b];simp
theorem AtP.mO (h:AtP w O p mb q d X):mb∈O:=by rw [h.b];simp
theorem AtP.xO (h:AtP w O p mb q d X) {x:Pm}(hx:x∈X) {i:Nat}(hi:i∈pmB x):i∈O:=by rw [h.b];simp [pmB_mem hx hi]
theorem AtP.mp (h:AtP w O p mb q d X):mb≠p:=by
 have hn:=h.n
 rw [h.b] at hn
 have:=(List.nodup_cons.1 hn).1
 intro e;subst e;simp at this
theorem AtP.xp (h:AtP w O p mb q d X) {x:Pm}(hx:x∈X) {i:Nat}(hi:i∈pmB x):i≠p∧i≠mb:=by
 have hn:=h.n
 rw [h.b] at hn
 obtain ⟨h1,h2⟩:=List.nodup_cons.1 hn
 obtain ⟨h3,_⟩:=List.nodup_cons.1 h2
 have h4:=pmB_mem hx hi
 refine ⟨fun e=>?_,fun e=>?_⟩
 ·subst e;exact h1 (by simp [h4])
 ·subst e;exact h3 h4
theorem AtP.nX (h:AtP w O p mb q d X):(blX X).Nodup∧p ∉ blX X∧mb ∉ blX X:=by
 have hn:=h.n
 rw [h.b] at hn
 obtain ⟨h1,h2⟩:=List.nodup_cons.1 hn
 obtain ⟨h3,h4⟩:=List.nodup_cons.1 h2
 exact ⟨h4,fun e=>h1 (by simp [e]),h3⟩
theorem AtP.sD (h:AtP w O p mb q d X):RisG Fl.n d.L:=by rw [← h.L,risG_map Pm.n Fl.n Pm.fl (fun _=>rfl)];exact h.s
theorem AtP.head {w':World}{d':Dk}{q':Int}(h:AtP w O p mb q d X) (hB:Bx w' p 56 [.map (some mb),.int .i64 d'.s,.int .i64 q',.bool d'.d]) (k:Kept [p] w w') (hL:d'.L=d.L) (hf:max q' (-1)=d'.f):AtP w' O p mb q' d' X :=
 ⟨hB,map_keptF k h.m (by simp [h.mp]),fun x hx=>(h.c x hx).kept k (by simp [(h.xp hx (pmB_k x)).1]),fun x hx=>k.ownsRow (h.o x hx) (fun i hi=>by simp [(h.xp hx (pmB_v hi)).1]),h.L.trans hL.symm,h.b,h.n,h.s,hf,h.z⟩
theorem AtP.fq (h:AtP w O p mb q d X) {a:World}{S:List Nat}(k:Kept S a w) (hS:∀ i∈O,i∈S∨a.heap.size≤i):FqP p a S d w:=⟨O,⟨mb,q,X,h⟩,k,hS⟩
theorem blX_sub {X Y:List Pm}(h:X.Sublist Y):(blX X).Sublist (blX Y):=by
 induction h with
 | slnil=>exact List.Sublist.refl _
 | cons a _ ih=>unfold blX at ih ⊢;rw [List.flatMap_cons];exact ih.trans (List.sublist_append_right _ _)
 | cons_cons a _ ih=>unfold blX at ih ⊢;rw [List.flatMap_cons,List.flatMap_cons];exact (List.Sublist.refl _).append ih
theorem blX_set (X:List Pm) (i:Nat) (hi:i < X.length) (y:Pm):(blX (X.set i y)).Perm (pmB y++blX (X.take i++X.drop (i+1))):=by
 rw [List.set_eq_take_append_cons_drop,if_pos hi]
 unfold blX
 rw [List.flatMap_append,List.flatMap_cons,List.flatMap_append,← List.append_assoc,← List.append_assoc]
 exact List.perm_append_comm.append_right _
theorem blX_get (X:List Pm) (i:Nat) (hi:i < X.length):(blX X).Perm (pmB X[i]++blX (X.take i++X.drop (i+1))):=by
 have h:=blX_set X i hi X[i]
 rwa [List.set_getElem_self] at h
theorem AtP.set {W:World}{d':Dk}(h:AtP w O p mb q d X) (i:Nat) (hi:i < X.length) (y:Pm) (hn:y.n=X[i].n) (hk:y.k=X[i].k) (K:Kept (pmB X[i]) w W) (hc:Bx W y.k 61 [y.v,.int .i64 y.l]) (ho:Own W y.v y.b)
 (hf:∀ k,y.v.ownBlock=some k→X[i].v.ownBlock=some k∨w.heap.size≤k) (hL:d'.L=d.L.set i y.fl) (hs:d'.s=d.s) (hu:d'.f=d.f) (hd:d'.d=d.d) :
 ∃ O',AtP W O' p mb q d' (X.set i y)∧Kept O w W∧∀ k∈O',k∈O∨w.heap.size≤k:=by
 obtain ⟨hnd,hp,hm⟩:=h.nX
 have hx:X[i]∈X:=List.getElem_mem hi
 have hpm:=blX_set X i hi y
 have hpo:=blX_get X i hi
 have hnd':=hpo.nodup_iff.1 hnd
 obtain ⟨hn1,hn2,hn3⟩:=List.nodup_append.1 hnd'
 have hlt:∀ a∈blX X,a < w.heap.size:=fun a ha=>h.lt a (by rw [h.b];simp [ha])
 have hrest:∀ a∈blX (X.take i++X.drop (i+1)),a∈blX X:=fun a ha=>hpo.mem_iff.2 (List.mem_append_right _ ha)
 have hyB:∀ a∈pmB y,a∈pmB X[i]∨w.heap.size≤a:=fun a ha=>by
  rcases List.mem_cons.1 ha with rfl | ha
  ·rw [hk];exact .inl (pmB_k _)
  ·rcases hf a (by simpa using ha) with h1 | h1
   ·exact .inl (pmB_v h1)
   ·exact .inr h1
 have hin:∀ a∈blX (X.set i y),a∈blX X∨w.heap.size≤a:=fun a ha=>by
  rcases List.mem_append.1 (hpm.mem_iff.1 ha) with h1 | h1
  ·rcases hyB a h1 with h2 | h2
   ·exact .inl (pmB_mem hx h2)
   ·exact .inr h2
  ·exact .inl (hrest a h1)
 have hyn:(pmB y).Nodup:=by
  unfold pmB
  refine List.nodup_cons.2 ⟨fun hmm=>?_,by cases y.v.ownBlock <;> simp⟩
  rcases hf y.k (by simpa using hmm) with h1 | h1
  ·rw [hk] at h1
   have:=(List.nodup_cons.1 hn1).1
   exact this (by rw [h1];simp)
  ·have:=hlt _ (pmB_mem hx (pmB_k X[i]));rw [hk] at h1;omega
 have hoff:∀ x∈X.take i++X.drop (i+1),x∈X∧∀ a∈pmB x,a ∉ pmB X[i]:=fun x hx' =>
  ⟨by rcases List.mem_append.1 hx' with h1 | h1
      ·exact List.mem_of_mem_take h1
      ·exact List.mem_of_mem_drop h1,fun a ha hb=>hn3 a hb a (List.mem_flatMap.2 ⟨_,hx',ha⟩) rfl⟩
 have hcs:∀ x∈X.set i y,x=y∨x∈X.take i++X.drop (i+1):=fun x hx'=>by
  rw [List.set_eq_take_append_cons_drop,if_pos hi] at hx'
  rcases List.mem_append.1 hx' with h1 | h1
  ·exact .inr (List.mem_append_left _ h1)
  ·rcases List.mem_cons.1 h1 with h1 | h1
   ·exact .inl h1
   ·exact .inr (List.mem_append_right _ h1)
 have hmap:(X.set i y).map Pm.p=X.map Pm.p:=by
  rw [List.map_set,show y.p=X[i].p from by unfold Pm.p;rw [hn,hk],show X[i].p=(X.map Pm.p)[i]'(by simpa using hi) from by simp,List.set_getElem_self]
 refine ⟨p :: mb :: blX (X.set i y),⟨?_,?_,fun x hx'=>?_,fun x hx'=>?_,?_,rfl,?_,?_,?_,fun x hx'=>?_⟩,K.mono (fun a ha=>.inl (h.xO hx ha)),fun a ha=>?_⟩
 ·rw [hs,hd];exact h.h.kept K (fun e=>hp (pmB_mem hx e))
 ·rw [hmap,List.length_set];exact map_keptF K h.m (fun e=>hm (pmB_mem hx e))
 ·rcases hcs x hx' with rfl | hx'
  ·exact hc
  ·exact (h.c x (hoff x hx').1).kept K ((hoff x hx').2 x.k (pmB_k x))
 ·rcases hcs x hx' with rfl | hx'
  ·exact ho
  ·exact K.ownsRow (h.o x (hoff x hx').1) (fun a ha=>(hoff x hx').2 a (pmB_v ha))
 ·rw [List.map_set,h.L,hL]
 ·refine List.nodup_cons.2 ⟨fun e=>?_,List.nodup_cons.2 ⟨fun e=>?_,hpm.nodup_iff.2 (List.nodup_append.2 ⟨hyn,hn2,fun a ha b hb e=>?_⟩)⟩⟩
  ·rcases List.mem_cons.1 e with e | e
   ·exact h.mp e.symm
   ·rcases hin p e with h1 | h1
    ·exact hp h1
    ·have:=h.h.lt;omega
  ·rcases hin mb e with h1 | h1
   ·exact hm h1
   ·have:=h.m.lt;omega
  ·subst e
   rcases hyB a ha with h1 | h1
   ·exact hn3 a h1 a hb rfl
   ·have:=hlt a (hrest a hb);omega
 ·rw [← risG_map Pm.n Prod.fst Pm.p (fun _=>rfl),hmap,risG_map Pm.n Prod.fst Pm.p (fun _=>rfl)];exact h.s
 ·rw [hu];exact h.f
 ·rcases hcs x hx' with rfl | hx'
  ·rw [hn];exact h.z _ hx
  ·exact h.z x (hoff x hx').1
 ·rcases List.mem_cons.1 ha with rfl | ha
  ·exact .inl h.pO
  rcases List.mem_cons.1 ha with rfl | ha
  ·exact .inl h.mO
  rcases hin a ha with h1 | h1
  ·exact .inl (by rw [h.b];simp [h1])
  ·exact .inr h1
theorem AtP.put {S:List Nat}{W W':World}{m:Nat}(h:AtP w O p mb q d X) (k:Kept S w W) (hS:∀ i∈O,i ∉ S) (y:Pm) (hc:Bx W y.k 61 [y.v,.int .i64 y.l]) (ho:Own W y.v y.b) (hfr:∀ i∈pmB y,i ∉ O) (hnd:(pmB y).Nodup) (hz:y.n.length≤1000000)
 (hm:W'.ownsMap Try.prog 9 ptR mb m ((nmD (X.map Pm.p)).put (.string y.n) (.lit (.int .i64 y.k)))) (hg:W.grownBy W' (some mb)) :
 AtP W' (p :: mb :: blX (insG Pm.n y (delG Pm.n y.n X))) p mb q ⟨insG Fl.n y.fl (delG Fl.n y.n d.L),d.s,d.f,d.d⟩ (insG Pm.n y (delG Pm.n y.n X))∧Kept [mb] W W':=by
 obtain ⟨hn0,hp,hmb⟩:=h.nX
 have h1:=h.kept k hS
 have k2:Kept [mb] W W':=(Kept.refl _ _).grown hg (by intro k hk;left;simp at hk;simp [hk])
 have hsub:=delG_sub Pm.n y.n X
 have hbl:(blX (delG Pm.n y.n X)).Sublist (blX X):=blX_sub hsub
 have hpm:(blX (insG Pm.n y (delG Pm.n y.n X))).Perm (pmB y++blX (delG Pm.n y.n X)):=by
  have:=(insG_perm Pm.n y (delG Pm.n y.n X)).flatMap_right pmB
  simpa [blX] using this
 have hOm:∀ a∈blX X,a∈O:=fun a ha=>by rw [h.b];simp [ha]
 have hcs:∀ x∈insG Pm.n y (delG Pm.n y.n X),x=y∨x∈X:=fun x hx=>by
  rcases (mem_insG Pm.n).1 hx with h3 | h3
  ·exact .inl h3
  ·exact .inr (hsub.mem h3)
 have hyp:∀ a∈pmB y,a≠p∧a≠mb:=fun a ha=>⟨fun e=>hfr a ha (by rw [e];exact h.pO),fun e=>hfr a ha (by rw [e];exact h.mO)⟩
 have hmm:∀ a∈blX (insG Pm.n y (delG Pm.n y.n X)),a≠p∧a≠mb:=fun a ha=>by
  rcases List.mem_append.1 (hpm.mem_iff.1 ha) with h3 | h3
  ·exact hyp a h3
  ·exact ⟨fun e=>by subst e;exact hp (hbl.mem h3),fun e=>by subst e;exact hmb (hbl.mem h3)⟩
 refine ⟨⟨h1.h.kept k2 (by simp [Ne.symm h.mp]),?_,fun x hx=>?_,fun x hx=>?_,?_,rfl,?_,risG_ins Pm.n (risG_del Pm.n h.s y.n) (fun z hz'=>((mem_delG Pm.n).1 hz').2),h.f,fun x hx=>?_⟩,k2⟩
 ·rw [nmD_put] at hm
  rw [insG_map Pm.n Prod.fst Pm.p (fun _=>rfl),delG_map Pm.n Prod.fst Pm.p (fun _=>rfl),show y.p=(y.n,y.k) from rfl]
  have h3:=nmD_tight hm
  have h4:(insG Prod.fst (y.n,y.k) (delG Prod.fst y.n (X.map Pm.p))).length=(insG Pm.n y (delG Pm.n y.n X)).length:=by
   rw [insG_len,insG_len,← delG_map Pm.n Prod.fst Pm.p (fun _=>rfl),List.length_map]
  rwa [h4] at h3
 ·rcases hcs x hx with rfl | hx'
  ·exact hc.kept k2 (by simp [(hyp _ (pmB_k x)).2])
  ·exact (h1.c x hx').kept k2 (by simp [(h1.xp hx' (pmB_k x)).2])
 ·rcases hcs x hx with rfl | hx'
  ·exact k2.ownsRow ho (fun a ha=>by simp [(hyp a (pmB_v ha)).2])
  ·exact k2.ownsRow (h1.o x hx') (fun a ha=>by simp [(h1.xp hx' (pmB_v ha)).2])
 ·rw [insG_map Pm.n Fl.n Pm.fl (fun _=>rfl),delG_map Pm.n Fl.n Pm.fl (fun _=>rfl),h.L]
 ·refine List.nodup_cons.2 ⟨fun e=>?_,List.nodup_cons.2 ⟨fun e=>(hmm mb e).2 rfl,hpm.nodup_iff.2 (List.nodup_append.2 ⟨hnd,hbl.nodup hn0,fun a ha b hb e=>?_⟩)⟩⟩
  ·rcases List.mem_cons.1 e with e | e
   ·exact h.mp e.symm
   ·exact (hmm p e).1 rfl
  ·subst e
   exact hfr a ha (hOm a (hbl.mem hb))
 ·rcases hcs x hx with rfl | hx'
  ·exact hz
  ·exact h.z x hx'
theorem AtP.del {S:List Nat}{W W':World}{m:Nat}(h:AtP w O p mb q d X) (k:Kept S w W) (hS:∀ i∈O,i ∉ S) (n:List UInt8)
 (hm:W'.ownsMap Try.prog 9 ptR mb m ((nmD (X.map Pm.p)).del (.string n))) (hg:W.grownBy W' (some mb)) :
 AtP W' (p :: mb :: blX (delG Pm.n n X)) p mb q ⟨delG Fl.n n d.L,d.s,d.f,d.d⟩ (delG Pm.n n X)∧Kept [mb] W W':=by
 obtain ⟨hn0,hp,hmb⟩:=h.nX
 have h1:=h.kept k hS
 have k2:Kept [mb] W W':=(Kept.refl _ _).grown hg (by intro k hk;left;simp at hk;simp [hk])
 have hsub:=delG_sub Pm.n n X
 have hbl:(blX (delG Pm.n n X)).Sublist (blX X):=blX_sub hsub
 refine ⟨⟨h1.h.kept k2 (by simp [Ne.symm h.mp]),?_,fun x hx=>(h1.c x (hsub.mem hx)).kept k2 (by simp [(h1.xp (hsub.mem hx) (pmB_k x)).2]),fun x hx=>k2.ownsRow (h1.o x (hsub.mem hx)) (fun a ha=>by simp [(h1.xp (hsub.mem hx) (pmB_v ha)).2]),?_,rfl,?_,risG_del Pm.n h.s n,h.f,fun x hx=>h.z x (hsub.mem hx)⟩,k2⟩
 ·rw [nmD_del] at hm
  rw [delG_map Pm.n Prod.fst Pm.p (fun _=>rfl)]
  have h3:=nmD_tight hm
  have h4:(delG Prod.fst n (X.map Pm.p)).length=(delG Pm.n n X).length:=by
   rw [← delG_map Pm.n Prod.fst Pm.p (fun _=>rfl),List.length_map]
  rwa [h4] at h3
 ·rw [delG_map Pm.n Fl.n Pm.fl (fun _=>rfl),h.L]
 ·refine List.nodup_cons.2 ⟨fun e=>?_,List.nodup_cons.2 ⟨fun e=>hmb (hbl.mem e),hbl.nodup hn0⟩⟩
  rcases List.mem_cons.1 e with e | e
  ·exact h.mp e.symm
  ·exact hp (hbl.mem e)
end
end Go.Proofs.Yteiagkjhmhllnaa
