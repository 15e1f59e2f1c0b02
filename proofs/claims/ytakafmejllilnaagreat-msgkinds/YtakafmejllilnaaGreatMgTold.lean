/-
  Requests and verdicts that came in, or were told, as what is gone through; their bytes are bytes. (Cut out of EnBa0, EnOn0, EnAm0.)
-/
import Derived.Test.YtakafmejllilnaaGreatF15
import Derived.Test.YtakafmejllilnaaGreatEnSmB
import Derived.Test.YtakafmejllilnaaGreatF13
namespace Go.Proofs.YtakafmejllilnaaGreat
open Go.RowKit
theorem rqHy_told {B:Nat}{w:World}{q:Rq}{vo:Option Addr}{vn vc:Nat}(h:OwnC B w (.slice vo vn vc) q.c) (hq:okReq q):RqHy [] w ⟨q,vo,vn,vc⟩:=by
 obtain ⟨ao,n,c,e,hS,h0⟩:=h.chV
 cases e
 have ht:∀ t:List UInt8,okT t=true→t.length≤140737488351232:=fun t ht=>by unfold okT at ht;simp at ht;omega
 have hall:q.n.length≤140737488351232∧q.f.length≤140737488351232∧q.p.length≤140737488351232∧∀ y∈q.c,y.p.length≤140737488351232:=by
  obtain ⟨_,h2⟩:=hq
  unfold okF' at h2
  split at h2
  ·rw [h2];simp
  split at h2
  ·have h3:=ht _ h2.1;rw [← h2.2];refine ⟨h3,?_⟩;simp
  split at h2
  ·have h3:=ht _ h2.1.2.2.2.1
   have h4:∀ y∈q.c,y.p.length≤140737488351232:=fun y hy=>ht _ (h2.1.2.2.2.2.2 y hy).1
   rw [← h2.2];exact ⟨by simp,h3,by simp,h4⟩
  split at h2
  ·have h3:=ht _ h2.1.2.2;rw [← h2.2];exact ⟨by simp,by simp,h3,by simp⟩
  split at h2
  ·rw [← h2.2];simp
  split at h2
  ·rw [← h2.2];simp
  ·rw [← h2.2];simp
 exact ⟨hS,h0,(fun _ _ _ hm=>by cases hm),hall.1,hall.2.1,hall.2.2.1,hall.2.2.2⟩
theorem inR_u {r:Rq}(h:inR r):U64c r.c:=fun c hc=>(h c hc).2
theorem oct_bT (t:List UInt8) (h:okT t=true):Oct (bT t)∧(bT t).length≤261:=by
 have hl:t.length≤255:=by unfold okT at h;simpa using h
 have he:=enc_length 5 (t.length:Int)
 refine ⟨(encNum_oct _ (by omega) (by omega)).append (strOf_oct _),?_⟩
 unfold bT
 rw [List.length_append,intsT_length]
 unfold encNum
 omega
theorem oct_num (n:Int) (h:goodB n=true):Oct (encNum n)∧(encNum n).length≤6:=by
 have h1:=(good_iff n).1 h
 exact ⟨encNum_oct n h1.1 h1.2,enc_length 5 n⟩
theorem oct_two {a b:List Int}{n m:Nat}(h:Oct a∧a.length≤n) (k:Oct b∧b.length≤m):Oct (a++b)∧(a++b).length≤n+m :=
 ⟨h.1.append k.1,by rw [List.length_append];omega⟩
theorem oct_chg (c:Ch) (h:okChg c):Oct (bC c)∧(bC c).length≤270:=by
 have h1:=oct_bT c.p h.1
 have h2:Oct (bF c.g)∧(bF c.g).length≤1:=⟨by unfold bF;intro x hx;simp at hx;subst hx;cases c.g <;> simp,by simp [bF]⟩
 have h3:Oct (if c.g=true then [] else hiB 8 c.d)∧(if c.g=true then [] else hiB 8 c.d).length≤8:=by
  split
  ·exact ⟨oct_nil,by simp⟩
  ·exact ⟨hiB_oct 8 c.d,by rw [hiB_length];omega⟩
 exact oct_two (oct_two h1 h2) h3
theorem oct_flat {α:Type}(b:α→List Int) (m:Nat) (L:List α) (h:∀ x∈L,Oct (b x)∧(b x).length≤m):Oct (L.flatMap b)∧(L.flatMap b).length≤L.length*m:=by
 induction L with
 | nil=>exact ⟨oct_nil,by simp⟩
 | cons x L ih =>
   have h1:=oct_two (h x (by simp)) (ih (fun y hy=>h y (by simp [hy])))
   refine ⟨by simpa using h1.1,?_⟩
   have:=h1.2
   simp only [List.flatMap_cons,List.length_cons,Nat.succ_mul]
   omega
theorem oct_chgs (L:List Ch) (h:okChgs L):Oct (bCs L)∧(bCs L).length≤17286:=by
 have h1:=oct_flat bC 270 L (fun c hc=>oct_chg c (h.2 c hc))
 have h0:goodB (L.length:Int)=true:=(good_iff _).2 (by have:=h.1;omega)
 have h2:=oct_two (oct_num (L.length:Int) h0) h1
 unfold bCs bL
 rw [if_pos h.1]
 exact ⟨h2.1,by have:=h2.2;have:=h.1;omega⟩
theorem bR_good {r:Rq}(h:okReq r):Oct (bR r)∧(bR r).length≤20000:=by
 rw [ok_bytes h]
 obtain ⟨⟨hk,_⟩,h2⟩:=h
 have h1:=oct_num r.k hk
 have h3:Oct (bF' r.k r)∧(bF' r.k r).length≤19000:=by
  unfold okF' at h2
  unfold bF'
  split
  ·exact ⟨oct_nil,by simp⟩
  rename_i n0
  rw [if_neg n0] at h2
  split
  ·rename_i n1
   rw [if_pos n1] at h2
   have:=oct_bT _ h2.1
   exact ⟨this.1,by omega⟩
  rename_i n1
  rw [if_neg n1] at h2
  split
  ·rename_i n2
   rw [if_pos n2] at h2
   have:=oct_two (oct_num _ h2.1.1) (oct_two (oct_num _ h2.1.2.1) (oct_two (oct_num _ h2.1.2.2.1) (oct_two (oct_bT _ h2.1.2.2.2.1) (oct_chgs _ h2.1.2.2.2.2))))
   exact ⟨this.1,by have:=this.2;omega⟩
  rename_i n2
  rw [if_neg n2] at h2
  split
  ·rename_i n4
   rw [if_pos n4] at h2
   have:=oct_two (oct_num _ h2.1.1) (oct_two (oct_num _ h2.1.2.1) (oct_bT _ h2.1.2.2))
   exact ⟨this.1,by have:=this.2;omega⟩
  rename_i n4
  rw [if_neg n4] at h2
  split
  ·rename_i n5
   rw [if_pos n5] at h2
   have:=oct_two (oct_num _ h2.1.1) (oct_two (oct_num _ h2.1.2.1) (oct_two (oct_num _ h2.1.2.2.1) (oct_num _ h2.1.2.2.2)))
   exact ⟨this.1,by have:=this.2;omega⟩
  rename_i n5
  rw [if_neg n5] at h2
  split
  ·rename_i n6
   rw [if_pos n6] at h2
   have:=oct_two (oct_num _ h2.1.1) (oct_two (oct_num _ h2.1.2.1) (oct_num _ h2.1.2.2))
   exact ⟨this.1,by have:=this.2;omega⟩
  ·rename_i n6
   rw [if_neg n6] at h2
   have:=oct_two (oct_num _ h2.1.1) (oct_num _ h2.1.2)
   exact ⟨this.1,by have:=this.2;omega⟩
 have h4:=oct_two h1 h3
 exact ⟨h4.1,by have:=h4.2;omega⟩
theorem cell_ltO {w:World}{b o:Nat}{v:Value}(h:w.cell? ⟨b,o,none⟩=some v):b < w.heap.size:=by
 unfold World.cell? at h
 by_cases hlt:b < w.heap.size
 ·exact hlt
 ·rw [show w.heap[(⟨b,o,none⟩:Addr).block]?=none from Array.getElem?_eq_none (by show w.heap.size≤b;omega)] at h
  simp at h
theorem chD_of {w:World}{v:Value}{L:List Ch}(h:ChV w v L):ChD [] w v L:=by
 obtain ⟨ao,n,c,e,hS,h0⟩:=h
 refine ⟨ao,n,c,e,hS,h0,fun hn k hk=>⟨?_,by simp⟩⟩
 obtain ⟨b,o,rfl,hc⟩:=hS.some hn
 simp [blk] at hk
 subst hk
 exact cell_ltO (hc 0 (by rw [hS.1];exact hn)).c0
theorem vtHy_of {w:World}{v:Vt}{u:Value}(h:KoV w u v.k) (hi:inV v):VtHy [] w v u:=by
 obtain ⟨ao,n,c,K,e,hS,hK,h0⟩:=h
 refine ⟨⟨ao,n,c,K,e,⟨hS.1,hS.2.1,hS.2.2.1,h0,hS.2.2.2.1,fun hn k hk=>⟨?_,by simp⟩,fun x hx=>chD_of (hS.2.2.2.2 x hx)⟩,hK⟩,hi.1,fun y hy=>⟨(hi.2.2.1 y hy).1,fun z hz=>?_⟩⟩
 ·obtain ⟨b,o,rfl,hc⟩:=hS.some hn
  simp [blk] at hk
  subst hk
  exact cell_ltO (hc 0 (by rw [hS.1];exact hn)).c0
 ·exact ((hi.2.2.1 y hy).2.2 z hz).1
theorem inV_u {v:Vt}(h:inV v):U64v v:=⟨h.2.2.2.2,fun x hx c hc=>((h.2.2.1 x hx).2.2 c hc).2⟩
theorem enc_mayO {r:Rq}(h:mayR r=true):putS ([],0) r=(bR r,0):=by rw [enc_one,if_pos h]
theorem enc_maynO {r:Rq}(h:¬ mayR r=true):putS ([],0) r=([],1):=by rw [enc_one,if_neg h]
theorem encV_may {v:Vt}(h:mayV v=true):toldS ([],0) v=(bV v,0):=by rw [encV_one,if_pos h]
theorem encV_mayn {v:Vt}(h:¬ mayV v=true):toldS ([],0) v=([],1):=by rw [encV_one,if_neg h]
theorem oct_com (x:Com) (h:okCom x):Oct (bK x)∧(bK x).length≤17560:=by
 have h1:=oct_two (oct_two (oct_two (oct_num _ h.1) (oct_num _ h.2.1)) (oct_bT _ h.2.2.1)) (oct_chgs _ h.2.2.2)
 exact ⟨h1.1,by have:=h1.2;unfold bK;omega⟩
theorem oct_coms (L:List Com) (h:okComs L):Oct (bKs L)∧(bKs L).length≤600000:=by
 have h1:=oct_flat bK 17560 L (fun c hc=>oct_com c (h.2 c hc))
 have h0:goodB (L.length:Int)=true:=(good_iff _).2 (by have:=h.1;omega)
 have h2:=oct_two (oct_num (L.length:Int) h0) h1
 unfold bKs bL
 rw [if_pos h.1]
 exact ⟨h2.1,by have:=h2.2;have:=h.1;omega⟩
theorem bV_good {v:Vt}(h:okVer v):Oct (bV v)∧(bV v).length≤1000000:=by
 rw [ok_bytesV h]
 obtain ⟨⟨hk,_⟩,h2⟩:=h
 have h1:=oct_num v.c hk
 have h3:Oct (bG v.c v)∧(bG v.c v).length≤900000:=by
  unfold okG at h2
  unfold bG
  split
  ·rename_i n1
   rw [if_pos n1] at h2
   have:=oct_num _ h2.1
   exact ⟨this.1,by omega⟩
  rename_i n1
  rw [if_neg n1] at h2
  split
  ·rename_i n2
   rw [if_pos n2] at h2
   have:=oct_num _ h2.1
   exact ⟨this.1,by omega⟩
  rename_i n2
  rw [if_neg n2] at h2
  split
  ·rename_i n3
   rw [if_pos n3] at h2
   have:=oct_two (oct_bT _ h2.1.1) (oct_num _ h2.1.2)
   exact ⟨this.1,by have:=this.2;omega⟩
  rename_i n3
  rw [if_neg n3] at h2
  split
  ·rename_i n9
   rw [if_pos n9] at h2
   have:=oct_two (oct_bT _ h2.1.1) (oct_two (⟨hiB_oct 8 v.d,by rw [hiB_length];exact Nat.le_refl _⟩:Oct (hiB 8 v.d)∧(hiB 8 v.d).length≤8) (oct_num _ h2.1.2.2))
   exact ⟨this.1,by have:=this.2;omega⟩
  rename_i n9
  rw [if_neg n9] at h2
  split
  ·rename_i n10
   rw [if_pos n10] at h2
   have:=oct_bT _ h2.1
   exact ⟨this.1,by omega⟩
  rename_i n10
  rw [if_neg n10] at h2
  split
  ·rename_i n11
   rw [if_pos n11] at h2
   have:=oct_coms _ h2.1
   exact ⟨this.1,by omega⟩
  rename_i n11
  rw [if_neg n11] at h2
  split
  ·rename_i n12
   rw [if_pos n12] at h2
   have:=oct_num _ h2.1
   exact ⟨this.1,by omega⟩
  ·exact ⟨oct_nil,by simp⟩
 have h4:=oct_two h1 h3
 exact ⟨h4.1,by have:=h4.2;omega⟩
end Go.Proofs.YtakafmejllilnaaGreat
