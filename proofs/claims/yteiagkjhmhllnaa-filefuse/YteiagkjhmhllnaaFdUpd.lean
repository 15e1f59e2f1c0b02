/-
  The document's disk: a file in its place is changed.
-/
import Derived.Test.YteiagkjhmhllnaaFdIn
namespace Go.Proofs.Yteiagkjhmhllnaa
open Go.RowKit
theorem updF_at (L:List Fl) (i:Nat) (hi:i < L.length) (g:Fl→Fl):updF L i g=L.set i (g L[i]):=by
 unfold updF
 rw [List.getElem?_eq_getElem hi]
theorem findF_lt {n:List UInt8}{L:List Fl}{i:Nat}(h:findF n L=some i):∃ hi:i < L.length,L[i].n=n:=by
 unfold findF at h
 rw [List.findIdx?_eq_some_iff_getElem] at h
 obtain ⟨h1,h2,_⟩:=h
 exact ⟨h1,by simpa using h2⟩
theorem findF_mem {n:List UInt8}{L:List Fl}(h:∃ x∈L,x.n=n):∃ i,findF n L=some i:=by
 cases e:findF n L with
 | some i=>exact ⟨i,rfl⟩
 | none =>
   unfold findF at e
   rw [List.findIdx?_eq_none_iff] at e
   obtain ⟨x,hx,hn⟩:=h
   have:=e x hx
   simp [hn] at this
theorem blF_set (X:List Fm) (i:Nat) (hi:i < X.length) (y:Fm):(blF (X.set i y)).Perm (y.v.ownBlock.toList++blF (X.take i++X.drop (i+1))):=by
 rw [List.set_eq_take_append_cons_drop,if_pos hi]
 unfold blF
 rw [List.flatMap_append,List.flatMap_cons,List.flatMap_append,← List.append_assoc,← List.append_assoc]
 exact List.perm_append_comm.append_right _
theorem AtD.apart {w:World}{O:List Nat}{p:Nat}{d:Dk}{v:Value}{X:List Fm}(h:AtD w O p d v X) {g:Nat}(hg:v.ownBlock=some g):g∈O∧g≠p∧∀ x∈X,x.v.ownBlock≠some g:=by
 obtain ⟨h1,h2⟩:=h.vO hg
 refine ⟨h1,h2,fun x hx e=>?_⟩
 have hn:=h.n
 rw [h.b] at hn
 have h3:=(List.nodup_append.1 (List.nodup_cons.1 hn).2).2.2 g (by rw [hg];simp) g (List.mem_flatMap.2 ⟨x,hx,by simp [e]⟩)
 exact h3 rfl
theorem AtD.setB {w w1:World}{O:List Nat}{p g n c:Nat}{d d':Dk}{X:List Fm}(h:AtD w O p d (.slice (some ⟨g,0,none⟩) n c) X) (k:Kept [] w w1) (i:Nat) (hi:i < X.length) (y:Fm) (hyn:y.n=X[i].n) (hyl:y.l=X[i].l)
 (ho:Own w1 y.v y.b) (hf:∀ k,y.v.ownBlock=some k→w.heap.size≤k) (hL:d'.L=updF d.L i (fun x=>⟨x.n,y.b,x.l⟩)) (hs:d'.s=d.s) (hu:d'.f=d.f) (hd:d'.d=d.d) :
 FdP p w O d' (w1.setCell ⟨g,i*3+1,none⟩ y.v):=by
 obtain ⟨hg1,hg2,hg3⟩:=h.apart (g:=g) rfl
 have hgl:=h.lt g hg1
 have k2:Kept [g] w1 (w1.setCell ⟨g,i*3+1,none⟩ y.v):=(Kept.refl _ _).setCell (by simp) _
 have hrow:=Rk.set (Rk.kept h.r k (by simp)) i hi 1 (by decide) y.v y (by
  show [.string (str y.n),y.v,.int .i64 y.l]=_
  rw [hyn,hyl];rfl)
 obtain ⟨hnd,hbl⟩:=h.blk
 have hpm:=blF_set X i hi y
 have hsub:=blF_out X i
 have hfr:∀ q∈blF (X.take i++X.drop (i+1)),q < w.heap.size:=fun q hq=>h.lt q (hbl q (hsub.mem hq)).2
 have hiL:i < d.L.length:=by rw [← h.len];exact hi
 have hmem:∀ q∈blF (X.set i y),(w.heap.size≤q∨q∈blF X):=fun q hq=>by
  rcases List.mem_append.1 (hpm.mem_iff.1 hq) with h1 | h1
  ·exact .inl (hf q (by simpa using h1))
  ·exact .inr (hsub.mem h1)
 refine ⟨blD p (.slice (some ⟨g,0,none⟩) n c) (X.set i y),⟨_,_,?_,hrow,fun x hx=>?_,?_,rfl,?_⟩,(k.mono (by simp)).trans k2 (fun q hq=>?_),fun q hq=>?_⟩
 ·rw [hs,hu,hd];exact (h.h.kept k (by simp)).kept k2 (by simp;omega)
 ·rcases List.mem_or_eq_of_mem_set hx with hx | rfl
  ·exact k2.ownsRow (k.ownsRow (h.o x hx) (by simp)) (fun q hq hm=>by simp at hm;subst hm;exact hg3 x hx hq)
  ·exact k2.ownsRow ho (fun q hq hm=>by simp at hm;subst hm;have:=hf _ hq;omega)
 ·rw [List.map_set,h.L,hL,updF_at d.L i hiL,h.get hi hiL]
  show _=d.L.set i ⟨X[i].n,y.b,X[i].l⟩
  rw [← hyn,← hyl];rfl
 ·unfold blD
  refine List.nodup_cons.2 ⟨fun hm=>?_,List.nodup_append.2 ⟨by simp [Value.ownBlock],?_,fun a ha b hb e=>?_⟩⟩
  ·rcases List.mem_append.1 hm with hm | hm
   ·simp [Value.ownBlock] at hm;omega
   ·rcases hmem p hm with h1 | h1
    ·have:=h.h.lt;omega
    ·exact (hbl p h1).1 rfl
  ·show (blF (X.set i y)).Nodup
   rw [hpm.nodup_iff,List.nodup_append]
   refine ⟨by cases y.v.ownBlock <;> simp,hsub.nodup hnd,fun a ha b hb e=>?_⟩
   subst e
   have h1:=hf a (by simpa using ha)
   have h2:=hfr a hb
   omega
  ·subst e
   simp [Value.ownBlock] at ha
   subst ha
   rcases hmem a hb with h1 | h1
   ·omega
   ·obtain ⟨x,hx,hq⟩:=List.mem_flatMap.1 h1
    exact hg3 x hx (by simpa using hq)
 ·simp at hq;subst hq;exact .inl hg1
 ·rcases List.mem_cons.1 hq with rfl | hq
  ·exact .inl h.pO
  ·rcases List.mem_append.1 hq with hq | hq
   ·simp [Value.ownBlock] at hq;subst hq;exact .inl hg1
   ·rcases hmem q hq with h1 | h1
    ·exact .inr h1
    ·exact .inl (hbl q h1).2
theorem AtD.setL {w w1:World}{O:List Nat}{p g n c:Nat}{d d':Dk}{X:List Fm}(h:AtD w O p d (.slice (some ⟨g,0,none⟩) n c) X) (k:Kept [] w w1) (i:Nat) (hi:i < X.length) (m:Nat)
 (hL:d'.L=updF d.L i (fun x=>⟨x.n,x.b,m⟩)) (hs:d'.s=d.s) (hu:d'.f=d.f) (hd:d'.d=d.d) :
 AtD (w1.setCell ⟨g,i*3+2,none⟩ (.int .i64 m)) O p d' (.slice (some ⟨g,0,none⟩) n c) (X.set i { X[i] with l:=m })∧Kept [g] w (w1.setCell ⟨g,i*3+2,none⟩ (.int .i64 m)):=by
 obtain ⟨hg1,hg2,hg3⟩:=h.apart (g:=g) rfl
 have k2:Kept [g] w1 (w1.setCell ⟨g,i*3+2,none⟩ (.int .i64 m)):=(Kept.refl _ _).setCell (by simp) _
 have hrow:=Rk.set (Rk.kept h.r k (by simp)) i hi 2 (by decide) (.int .i64 m) { X[i] with l:=m } rfl
 have hiL:i < d.L.length:=by rw [← h.len];exact hi
 have hbl:blF (X.set i { X[i] with l:=m })=blF X:=by
  rw [List.set_eq_take_append_cons_drop,if_pos hi]
  unfold blF
  rw [List.flatMap_append,List.flatMap_cons]
  have h1:X=X.take i++(X[i] :: X.drop (i+1)):=by rw [List.getElem_cons_drop,List.take_append_drop]
  conv=>rhs;rw [h1]
  rw [List.flatMap_append,List.flatMap_cons];rfl
 refine ⟨⟨?_,hrow,fun x hx=>?_,?_,?_,h.n⟩,(k.mono (by simp)).trans k2 (by simp)⟩
 ·rw [hs,hu,hd];exact (h.h.kept k (by simp)).kept k2 (by simp;omega)
 ·rcases List.mem_or_eq_of_mem_set hx with hx | rfl
  ·exact k2.ownsRow (k.ownsRow (h.o x hx) (by simp)) (fun q hq hm=>by simp at hm;subst hm;exact hg3 x hx hq)
  ·exact k2.ownsRow (k.ownsRow (h.o X[i] (List.getElem_mem hi)) (by simp)) (fun q hq hm=>by simp at hm;subst hm;exact hg3 X[i] (List.getElem_mem hi) hq)
 ·rw [List.map_set,h.L,hL,updF_at d.L i hiL,h.get hi hiL];rfl
 ·rw [h.b]
  unfold blD
  show p :: (_++blF X)=p :: (_++blF (X.set i { X[i] with l:=m }))
  rw [hbl]
end Go.Proofs.Yteiagkjhmhllnaa
