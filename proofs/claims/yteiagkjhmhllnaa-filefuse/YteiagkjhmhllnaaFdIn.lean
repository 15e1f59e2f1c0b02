/-
  The document's disk: a file comes.
-/
import Derived.Test.YteiagkjhmhllnaaRegG
import Derived.Test.YteiagkjhmhllnaaFdOps
namespace Go.Proofs.Yteiagkjhmhllnaa
open Go.RowKit
theorem posF_eq (n:List UInt8) (L:List Fl) (i:Nat) (hi:i≤L.length) (h:∀ k (hk:k < L.length),k < i→ltN L[k].n n=true) (he:∀ hk:i < L.length,ltN L[i].n n=false):posF n L=i:=by
 induction L generalizing i with
 | nil=>simp at hi;subst hi;rfl
 | cons y L ih =>
   cases i with
   | zero =>
     have:=he (by simp)
     unfold posF
     rw [List.getElem_cons_zero] at this
     rw [this];rfl
   | succ i =>
     have h0:=h 0 (by simp) (by omega)
     rw [List.getElem_cons_zero] at h0
     unfold posF
     rw [if_pos h0,ih i (by simpa using hi) (fun k hk hk2=>by have:=h (k+1) (by simpa using hk) (by omega);simpa using this) (fun hk=>by have:=he (by simpa using hk);simpa using this)]
theorem range_keptF {S:List Nat}{a w:World}{b o:Nat}{cs:List Value}(h:a.rangeAt b o cs) (k:Kept S a w) (hb:b ∉ S):w.rangeAt b o cs:=fun j v hv=>k.cell (h j v hv) hb
def InP (p:Nat) (w:World) (d:Dk) (X:List Fm) (x:Fm) (w':World):Prop :=
 ∃ v',AtD w' (blD p v' (X.take (posF x.n d.L)++(x :: X.drop (posF x.n d.L)))) p ⟨inF x.fl d.L,d.s,d.f,d.d⟩ v' (X.take (posF x.n d.L)++(x :: X.drop (posF x.n d.L)))∧Kept [p] w w'∧∀ k,v'.ownBlock=some k→w.heap.size≤k
theorem AtD.inP {w:World}{O:List Nat}{p:Nat}{d:Dk}{v:Value}{X:List Fm}(h:AtD w O p d v X) (x:Fm) (hx:Own w x.v x.b) (hxO:∀ k,x.v.ownBlock=some k→k ∉ O) {i:Nat}(hi:posF x.n d.L=i) {w2:World}{v2:Value}(hk:Kept [] w w2) (hr:rkO.row w2 v2 (X.take i++(x :: X.drop i))) (hf:∀ k,v2.ownBlock=some k→w.heap.size≤k):InP p w d X x (w2.setCell ⟨p,0,none⟩ v2):=by
 subst hi
 obtain ⟨hn,hb⟩:=h.blk
 have hpm:(blF (X.take (posF x.n d.L)++(x :: X.drop (posF x.n d.L)))).Perm (x.v.ownBlock.toList++blF X):=by
  unfold blF
  rw [List.flatMap_append,List.flatMap_cons]
  have h1:(X.take (posF x.n d.L)).flatMap (fun x=>x.v.ownBlock.toList)++(X.drop (posF x.n d.L)).flatMap (fun x=>x.v.ownBlock.toList)=X.flatMap fun x=>x.v.ownBlock.toList:=by rw [← List.flatMap_append,List.take_append_drop]
  rw [← h1,← List.append_assoc,← List.append_assoc]
  exact List.perm_append_comm.append_right _
 have hall:∀ z∈X.take (posF x.n d.L)++(x :: X.drop (posF x.n d.L)),Own w z.v z.b:=fun z hz=>by
  rcases List.mem_append.1 hz with hz | hz
  ·exact h.o z (List.mem_of_mem_take hz)
  ·rcases List.mem_cons.1 hz with rfl | hz
   ·exact hx
   ·exact h.o z (List.mem_of_mem_drop hz)
 have hpn:∀ k∈blF (X.take (posF x.n d.L)++(x :: X.drop (posF x.n d.L))),k≠p:=fun k hk=>by
  rcases List.mem_append.1 (hpm.mem_iff.1 hk) with h1 | h1
  ·intro e;subst e
   exact hxO k (by simpa using h1) h.pO
  ·exact (hb k h1).1
 have hnd:(blF (X.take (posF x.n d.L)++(x :: X.drop (posF x.n d.L)))).Nodup:=by
  rw [hpm.nodup_iff,List.nodup_append]
  refine ⟨by cases x.v.ownBlock <;> simp,hn,fun a ha b hb2 e=>?_⟩
  subst e
  exact hxO a (by simpa using ha) (hb a hb2).2
 have hml:(X.take (posF x.n d.L)++(x :: X.drop (posF x.n d.L))).map Fm.fl=inF x.fl d.L:=by
  unfold inF
  show _=d.L.take (posF x.n d.L)++(x.fl :: d.L.drop (posF x.n d.L))
  rw [List.map_append,List.map_cons,List.map_take,List.map_drop,h.L]
 obtain ⟨h1,h2⟩:=h.put (d':=⟨inF x.fl d.L,d.s,d.f,d.d⟩) hk hr hf hall hnd hpn hml rfl rfl rfl
 exact ⟨v2,h1,h2,hf⟩
set_option linter.unusedSimpArgs false in
set_option maxHeartbeats 8000000 in
set_option maxRecDepth 100000 in
theorem dinF_call {w:World}{O:List Nat}{p:Nat}{d:Dk}{v:Value}{X:List Fm}(h:AtD w O p d v X) (hl:X.length≤100000000) (x:Fm) (hx:Own w x.v x.b) (hxO:∀ k,x.v.ownBlock=some k→k ∉ O) :
 Calls Try.prog 50 #[.pointer (some ⟨p,0,none⟩),.agg (foC x).toArray] w fun e w'=>e=.returned (.tuple #[])∧InP p w d X x w':=by
 obtain ⟨W,hW⟩:∃ W,W=w.alloc (.cells (foC x).toArray 73):=⟨_,rfl⟩
 have hKw:Kept [] w W:=by rw [hW];exact (Kept.refl _ _).alloc _
 have HBX:Hid (Bx W w.heap.size 73 (foC x)):=by rw [hW];exact Bx.new w _ _
 unfold foC Fm.v at hW HBX
 have HW:=hide hW
 have HH:=hide h
 have HKw:=hide hKw
 have HPO:=hide (fun i hi w2 v2=>h.inP x hx hxO (i:=i) hi (w2:=w2) (v2:=v2))
 have HXL:=hide h.len
 have HGT:=hide (fun i (hi:i < X.length) (hi':i < d.L.length)=>h.get hi hi')
 have hwW:w.heap.size < W.heap.size:=HBX.out.lt
 obtain ⟨ao,c,hv,hc,hm,hno,hat⟩:=Rk.shape h.r
 subst hv
 unfold maxLen at hm
 have HA:=hide hat
 have HC:=hide hc
 have HNO:=hide hno
 clear h hx hxO hW hKw hat hc hno
 unfold foC Fm.v
 go_enter Try.func50,Try.ntmps50
 go_upto_region 1 with fail
 rw [← HW.out]
 go_wp2_with fail
 go_loopw [4] (fun iv wr=>∃ i:Nat,iv=.int .i64 (i:Int)∧i≤X.length∧Hid (∀ k (hk:k < d.L.length),k < i→ltN d.L[k].n x.n=true)∧Hid (Kept [] W wr)) (fun iv _=>X.length - (intOf iv).toNat)
 case atStart=>exact ⟨0,rfl,Nat.zero_le _,fun k _ hk=>by omega,Kept.refl _ _⟩
 case round =>
  obtain ⟨i,rfl,hi,HLT,HKi⟩:=hrel
  have c0:=(HH.out.h.kept (HKw.out.trans HKi.out (by simp)) (by simp)).cell 0 rfl
  have b0:=(HBX.out.kept HKi.out (by simp)).cell 0 rfl
  by_cases hlt:i < X.length
  ·have hlt':(i:Int) < X.length:=by omega
   have hiL:i < d.L.length:=by rw [← HXL.out];exact hlt
   obtain ⟨g,he,hxr⟩:=HA.out i hlt
   subst he
   have n0:wr.cell? ⟨g,i*3,none⟩=some (.string (str X[i].n)):=(range_keptF hxr (HKw.out.trans HKi.out (by simp)) (by simp)) 0 _ rfl
   have HCk:Hid (d.L[i].n=X[i].n):=by show _=_;rw [HGT.out i hlt hiL];rfl
   have hic:i < c:=by have:=HC.out;omega
   generalize X[i]=y at n0 HCk
   clear hxr
   cases hq0:ltN y.n x.n
   ·have hq:Op.bytesLess (str y.n).toList (str x.n).toList=false:=by rw [strB_lt];exact hq0
    have HPZ:Hid (posF x.n d.L=i):=posF_eq x.n d.L i (by omega) HLT.out (fun hk=>by rw [HCk.out];exact hq0)
    clear hq0 HLT
    go_upto_region 2 with fail
    refine wp_region_held_drew (S:=fun w9=>w9.cell? ⟨p,0,none⟩=some (.slice (some ⟨g,0,none⟩) X.length c)∧w9.cell? ⟨w.heap.size,0,none⟩=some (.string (str x.n))∧w9.cell? ⟨g,i*3,none⟩=some (.string (str y.n))) (by kernel_rfl) ⟨c0,b0,n0⟩ (fun hHeld=>?_)
    refine tks [0,1,2,3,4,5,6,7,8,9,10,11,12,13,14,15,16,17,18,19] (by rfl) (by kernel_rfl) (fun _ _ _ _ _ h=>h) hHeld ?_
    iterate 20
     refine yk ?_ rfl (Or.inl ⟨by rfl,?_⟩) ?_
     rotate_left
     ·intro w9 hSw;obtain ⟨m0,m1,m2⟩:=hSw;go_simp;(try with_reducible rfl)
     try simp only [sT,Act.put]
    refine yk0 ?_
    simp only [setK,sT]
    refine wpAnyH_done (by kernel_rfl) ?_ _
    clear hHeld
    clear hq HCk hlt hlt' hiL
    have hck:¬ c≤i:=by omega
    have hic':i≤c:=by omega
    clear hic
    have hKq:Kept [] W wr.drew:=HKi.out.drew
    generalize wr.drew=wq at hKq ⊢
    have HKq:=hide hKq
    have HBq:=hide (HBX.out.kept hKq (by simp))
    have HK0q:=hide (HKw.out.trans hKq (by simp))
    have hrq:=Rk.kept HH.out.r HK0q.out (by simp)
    have ka:Kept [] wq (wq.alloc (.cells #[] 73)):=(Kept.refl _ _).alloc _
    have HS1:Hid (rkO.src (wq.alloc (.cells #[] 73)) (some ⟨g,0,none⟩) i c (X.take i)):=Rk.src_take (Rk.kept hrq ka (by simp)) hi
    have c0:=(HH.out.h.kept HK0q.out (by simp)).cell 0 rfl
    have c0a:=ka.cell c0 (by simp)
    have hO0:rkO.row (wq.alloc (.cells #[] 73)) (.slice (some ⟨wq.heap.size,0,none⟩) 0 0) []:=Rk.void wq
    clear hKq b0 n0 hrq ka HKi
    go_wp2_with (at_builtin;refine Rk.appS rkO rfl _ _ rfl _ [] rfl hO0 (some ⟨g,0,none⟩) i c (X.take i) rfl HS1.out (by simp <;> omega) ?p1)
    case p1 =>
     intro v1 w1 hR1 hk1 hf1
     have hK1:Kept [] wq w1:=((Kept.refl [] wq).alloc _).trans hk1 (fun k hk=>.inr (by simp [Value.ownBlock] at hk;omega))
     have HF1:Hid (∀ k,v1.ownBlock=some k→wq.heap.size≤k):=fun k hk=>by
      rcases hf1 k hk with h1 | h1
      ·simp [Value.ownBlock] at h1;omega
      ·omega
     have HR1:Hid (rkO.row w1 v1 (X.take i)):=hR1
     have HK1:=hide hK1
     have hB1:=HBq.out.kept hK1 (by simp)
     have q0:=hB1.cell 0 rfl
     have q1:=hB1.cell 1 rfl
     have q2:=hB1.cell 2 rfl
     have HRa:Hid (rkO.row (w1.alloc (.cells #[.string (str x.n),.slice x.ao x.b.length x.c,.int .i64 x.l] 73)) v1 (X.take i)):=Rk.kept hR1 ((Kept.refl [] w1).alloc _) (by simp)
     have HNw:Hid (rkO.src (w1.alloc (.cells #[.string (str x.n),.slice x.ao x.b.length x.c,.int .i64 x.l] 73)) (some ⟨w1.heap.size,0,none⟩) 1 1 [x]):=⟨rfl,by simp,fun ad e=>by cases e;exact Rk.news (x:=x) (Bx.new w1 _ (foC x))⟩
     clear hR1 hk1 hf1 hK1 hB1 HS1 c0 c0a hO0
     go_wp2_with (at_builtin;refine Rk.appS rkO rfl _ _ rfl v1 (X.take i) rfl HRa.out (some ⟨w1.heap.size,0,none⟩) 1 1 [x] rfl HNw.out (by simp <;> omega) ?p2)
     case p2 =>
      intro v2 w2 hR2 hk2 hf2
      have hK2:Kept [] wq w2:=(HK1.out.trans ((Kept.refl [] w1).alloc _) (by simp)).trans hk2 (fun k hk=>.inr (HF1.out k (by simpa using hk)))
      have HF2:Hid (∀ k,v2.ownBlock=some k→wq.heap.size≤k):=fun k hk=>by
       rcases hf2 k hk with h1 | h1
       ·exact HF1.out k h1
       ·have:=HK1.out.size
        try simp at h1
        omega
      have HR2:Hid (rkO.row w2 v2 (X.take i++[x])):=hR2
      have HK2:=hide hK2
      have hk02:=HK0q.out.trans hK2 (by simp)
      have hrow:=Rk.kept HH.out.r hk02 (by simp)
      have c0:=(HH.out.h.kept hk02 (by simp)).cell 0 rfl
      have HS2:Hid (rkO.src w2 (some ⟨g,i*3,none⟩) (X.length - i) (c - i) (X.drop i)):=by have h1:=Rk.src_drop hrow (i:=i) hi;rw [Option.map_some,adr_addC,Nat.zero_add] at h1;exact h1
      clear hR2 hk2 hf2 hK2 hrow q0 q1 q2 HR1 HRa HNw hk02
      go_wp2_with (at_builtin;refine Rk.appS rkO rfl _ _ rfl v2 (X.take i++[x]) rfl HR2.out (some ⟨g,i*3,none⟩) (X.length - i) (c - i) (X.drop i) rfl HS2.out (by simp <;> omega) ?p3)
      case p3 =>
       intro v3 w3 hR3 hk3 hf3
       have hK3:Kept [] wq w3:=HK2.out.trans hk3 (fun k hk=>.inr (HF2.out k (by simpa using hk)))
       have hK03:Kept [] w w3:=HK0q.out.trans hK3 (by simp)
       have hF3:∀ k,v3.ownBlock=some k→w.heap.size≤k:=fun k hk=>by
        have h0:=HK0q.out.size
        rcases hf3 k hk with h1 | h1
        ·have:=HF2.out k h1;omega
        ·have:=HK2.out.size;omega
       have hR4:rkO.row w3 v3 (X.take i++(x :: X.drop i)):=hR3
       have HE:=hide (HPO.out i HPZ.out w3 v3 hK03 hR4 hF3)
       have c0c:=hK03.cell (HH.out.h.cell 0 rfl) (by simp)
       have z0:=(HH.out.h.kept hK03 (by simp)).froz 0
       obtain ⟨ao3,cc3,hv3,_⟩:=Rk.shape hR4
       subst hv3
       generalize (X.take i++(x :: X.drop i)).length=n3 at HE ⊢
       clear hR3 hR4 hk3 hf3 hK3 hK03 hF3 c0
       go_wp2_with fail
       go_returns
       exact ⟨rfl,HE.out⟩
   ·have hq:Op.bytesLess (str y.n).toList (str x.n).toList=true:=by rw [strB_lt];exact hq0
    have HN:Hid (∀ k (hk:k < d.L.length),k < i+1→ltN d.L[k].n x.n=true):=fun k hk hk2=>by
     by_cases e:k=i
     ·subst e;rw [HCk.out];exact hq0
     ·exact HLT.out k hk (by omega)
    clear hq0 HLT
    go_upto_region 2 with fail
    refine wp_region_held_drew (S:=fun w9=>w9.cell? ⟨p,0,none⟩=some (.slice (some ⟨g,0,none⟩) X.length c)∧w9.cell? ⟨w.heap.size,0,none⟩=some (.string (str x.n))∧w9.cell? ⟨g,i*3,none⟩=some (.string (str y.n))) (by kernel_rfl) ⟨c0,b0,n0⟩ (fun hHeld=>?_)
    refine tks [0,1,2,3,4,5,6,7,8,9,10,11,12,13,14,15,16,17,18,19] (by rfl) (by kernel_rfl) (fun _ _ _ _ _ h=>h) hHeld ?_
    iterate 20
     refine yk ?_ rfl (Or.inl ⟨by rfl,?_⟩) ?_
     rotate_left
     ·intro w9 hSw;obtain ⟨m0,m1,m2⟩:=hSw;go_simp;(try with_reducible rfl)
     try simp only [sT,Act.put]
    refine yk0 ?_
    simp only [setK,sT]
    refine wpAnyH_done (by kernel_rfl) ?_ _
    clear hHeld
    have HKd:=hide HKi.out.drew
    go_wp2_with fail
    go_roundw
    case rel=>exact ⟨i+1,by go_num,by omega,HN,HKd⟩
    case measure=>simp [intOf];omega
  ·have hlt':¬ (i:Int) < X.length:=by omega
   have HPZ:Hid (posF x.n d.L=i):=posF_eq x.n d.L i (by have:=HXL.out;omega) HLT.out (fun hk=>absurd hk (by have:=HXL.out;omega))
   have n0:True:=trivial
   clear HLT
   go_upto_region 2 with fail
   refine wp_region_held_drew (S:=fun w9=>w9.cell? ⟨p,0,none⟩=some (.slice ao X.length c)) (by kernel_rfl) c0 (fun hHeld=>?_)
   refine tks [0,1,2,3,4,5,6,7] (by rfl) (by kernel_rfl) (fun _ _ _ _ _ h=>h) hHeld ?_
   iterate 8
    refine yk ?_ rfl (Or.inl ⟨by rfl,?_⟩) ?_
    rotate_left
    ·intro w9 hSw;have m0:=hSw;go_simp;(try with_reducible rfl)
    try simp only [sT,Act.put]
   refine yk0 ?_
   simp only [setK,sT]
   refine wpAnyH_take (i:=8) (v:=undef) rfl (by kernel_rfl) (by kernel_rfl) (by kernel_rfl) (fun _ _ _ h=>h) (Or.inr ⟨by rfl,rfl⟩) hHeld ?_
   try simp only [sT,Act.put]
   refine wpAnyH_take (i:=9) (v:=undef) rfl (by kernel_rfl) (by kernel_rfl) (by kernel_rfl) (fun _ _ _ h=>h) (Or.inr ⟨by rfl,rfl⟩) hHeld ?_
   try simp only [sT,Act.put]
   refine wpAnyH_take (i:=10) (v:=undef) rfl (by kernel_rfl) (by kernel_rfl) (by kernel_rfl) (fun _ _ _ h=>h) (Or.inr ⟨by rfl,rfl⟩) hHeld ?_
   try simp only [sT,Act.put]
   refine wpAnyH_take (i:=11) (v:=undef) rfl (by kernel_rfl) (by kernel_rfl) (by kernel_rfl) (fun _ _ _ h=>h) (Or.inr ⟨by rfl,rfl⟩) hHeld ?_
   try simp only [sT,Act.put]
   refine wpAnyH_take (i:=12) (v:=undef) rfl (by kernel_rfl) (by kernel_rfl) (by kernel_rfl) (fun _ _ _ h=>h) (Or.inr ⟨by rfl,rfl⟩) hHeld ?_
   try simp only [sT,Act.put]
   refine wpAnyH_take (i:=13) (v:=undef) rfl (by kernel_rfl) (by kernel_rfl) (by kernel_rfl) (fun _ _ _ h=>h) (Or.inr ⟨by rfl,rfl⟩) hHeld ?_
   try simp only [sT,Act.put]
   refine wpAnyH_take (i:=14) (v:=undef) rfl (by kernel_rfl) (by kernel_rfl) (by kernel_rfl) (fun _ _ _ h=>h) (Or.inr ⟨by rfl,rfl⟩) hHeld ?_
   try simp only [sT,Act.put]
   refine wpAnyH_take (i:=15) (v:=undef) rfl (by kernel_rfl) (by kernel_rfl) (by kernel_rfl) (fun _ _ _ h=>h) (Or.inr ⟨by rfl,rfl⟩) hHeld ?_
   try simp only [sT,Act.put]
   refine wpAnyH_take (i:=16) (v:=undef) rfl (by kernel_rfl) (by kernel_rfl) (by kernel_rfl) (fun _ _ _ h=>h) (Or.inr ⟨by rfl,rfl⟩) hHeld ?_
   try simp only [sT,Act.put]
   refine wpAnyH_take (i:=17) (v:=undef) rfl (by kernel_rfl) (by kernel_rfl) (by kernel_rfl) (fun _ _ _ h=>h) (Or.inr ⟨by rfl,rfl⟩) hHeld ?_
   try simp only [sT,Act.put]
   refine wpAnyH_take (i:=18) (v:=undef) rfl (by kernel_rfl) (by kernel_rfl) (by kernel_rfl) (fun _ _ _ h=>h) (Or.inr ⟨by rfl,rfl⟩) hHeld ?_
   try simp only [sT,Act.put]
   refine tks [19] (by rfl) (by kernel_rfl) (fun _ _ _ _ _ h=>h) hHeld ?_
   iterate 1
    refine yk ?_ rfl (Or.inl ⟨by rfl,?_⟩) ?_
    rotate_left
    ·intro w9 hSw;have m0:=hSw;go_simp;(try with_reducible rfl)
    try simp only [sT,Act.put]
   refine yk0 ?_
   simp only [setK,sT]
   refine wpAnyH_done (by kernel_rfl) ?_ _
   clear hHeld
   rcases Rk.shape2 HH.out.r with ⟨hv,hX⟩ | ⟨g,c',hv,_⟩
   ·simp only [Value.slice.injEq] at hv
    obtain ⟨rfl,_,rfl⟩:=hv
    have hi0:i=0:=by rw [hX] at hi;simpa using hi
    subst hi0
    have HX0:=hide hX
    have hX1:X.length=0:=by rw [hX];rfl
    clear hX hlt hlt'
    have hKq:Kept [] W wr.drew:=HKi.out.drew
    generalize wr.drew=wq at hKq ⊢
    have HKq:=hide hKq
    have HBq:=hide (HBX.out.kept hKq (by simp))
    have HK0q:=hide (HKw.out.trans hKq (by simp))
    have hrq:=Rk.kept HH.out.r HK0q.out (by simp)
    have ka:Kept [] wq (wq.alloc (.cells #[] 73)):=(Kept.refl _ _).alloc _
    have HS1:Hid (rkO.src (wq.alloc (.cells #[] 73)) none 0 0 ([])):=⟨rfl,by simp,fun ad e=>by cases e⟩
    have c0:=(HH.out.h.kept HK0q.out (by simp)).cell 0 rfl
    have c0a:=ka.cell c0 (by simp)
    have hO0:rkO.row (wq.alloc (.cells #[] 73)) (.slice (some ⟨wq.heap.size,0,none⟩) 0 0) []:=Rk.void wq
    clear hKq b0 n0 hrq ka HKi
    go_wp2_with (at_builtin;refine Rk.appS rkO rfl _ _ rfl _ [] rfl hO0 none 0 0 ([]) rfl HS1.out (by simp <;> omega) ?p1)
    case p1 =>
     intro v1 w1 hR1 hk1 hf1
     have hK1:Kept [] wq w1:=((Kept.refl [] wq).alloc _).trans hk1 (fun k hk=>.inr (by simp [Value.ownBlock] at hk;omega))
     have HF1:Hid (∀ k,v1.ownBlock=some k→wq.heap.size≤k):=fun k hk=>by
      rcases hf1 k hk with h1 | h1
      ·simp [Value.ownBlock] at h1;omega
      ·omega
     have HR1:Hid (rkO.row w1 v1 ([])):=hR1
     have HK1:=hide hK1
     have hB1:=HBq.out.kept hK1 (by simp)
     have q0:=hB1.cell 0 rfl
     have q1:=hB1.cell 1 rfl
     have q2:=hB1.cell 2 rfl
     have HRa:Hid (rkO.row (w1.alloc (.cells #[.string (str x.n),.slice x.ao x.b.length x.c,.int .i64 x.l] 73)) v1 ([])):=Rk.kept hR1 ((Kept.refl [] w1).alloc _) (by simp)
     have HNw:Hid (rkO.src (w1.alloc (.cells #[.string (str x.n),.slice x.ao x.b.length x.c,.int .i64 x.l] 73)) (some ⟨w1.heap.size,0,none⟩) 1 1 [x]):=⟨rfl,by simp,fun ad e=>by cases e;exact Rk.news (x:=x) (Bx.new w1 _ (foC x))⟩
     clear hR1 hk1 hf1 hK1 hB1 HS1 c0 c0a hO0
     go_wp2_with (at_builtin;refine Rk.appS rkO rfl _ _ rfl v1 ([]) rfl HRa.out (some ⟨w1.heap.size,0,none⟩) 1 1 [x] rfl HNw.out (by simp <;> omega) ?p2)
     case p2 =>
      intro v2 w2 hR2 hk2 hf2
      have hK2:Kept [] wq w2:=(HK1.out.trans ((Kept.refl [] w1).alloc _) (by simp)).trans hk2 (fun k hk=>.inr (HF1.out k (by simpa using hk)))
      have HF2:Hid (∀ k,v2.ownBlock=some k→wq.heap.size≤k):=fun k hk=>by
       rcases hf2 k hk with h1 | h1
       ·exact HF1.out k h1
       ·have:=HK1.out.size
        try simp at h1
        omega
      have HR2:Hid (rkO.row w2 v2 ([]++[x])):=hR2
      have HK2:=hide hK2
      have hk02:=HK0q.out.trans hK2 (by simp)
      have hrow:=Rk.kept HH.out.r hk02 (by simp)
      have c0:=(HH.out.h.kept hk02 (by simp)).cell 0 rfl
      have HS2:Hid (rkO.src w2 none 0 0 ([])):=⟨rfl,by simp,fun ad e=>by cases e⟩
      clear hR2 hk2 hf2 hK2 hrow q0 q1 q2 HR1 HRa HNw hk02
      go_wp2_with (at_builtin;refine Rk.appS rkO rfl _ _ rfl v2 ([]++[x]) rfl HR2.out none 0 0 ([]) rfl HS2.out (by simp <;> omega) ?p3)
      case p3 =>
       intro v3 w3 hR3 hk3 hf3
       have hK3:Kept [] wq w3:=HK2.out.trans hk3 (fun k hk=>.inr (HF2.out k (by simpa using hk)))
       have hK03:Kept [] w w3:=HK0q.out.trans hK3 (by simp)
       have hF3:∀ k,v3.ownBlock=some k→w.heap.size≤k:=fun k hk=>by
        have h0:=HK0q.out.size
        rcases hf3 k hk with h1 | h1
        ·have:=HF2.out k h1;omega
        ·have:=HK2.out.size;omega
       have hR4:rkO.row w3 v3 (X.take 0++(x :: X.drop 0)):=by rw [HX0.out];exact hR3
       have HE:=hide (HPO.out 0 HPZ.out w3 v3 hK03 hR4 hF3)
       have c0c:=hK03.cell (HH.out.h.cell 0 rfl) (by simp)
       have z0:=(HH.out.h.kept hK03 (by simp)).froz 0
       obtain ⟨ao3,cc3,hv3,_⟩:=Rk.shape hR4
       subst hv3
       generalize (X.take 0++(x :: X.drop 0)).length=n3 at HE ⊢
       clear hR3 hR4 hk3 hf3 hK3 hK03 hF3 c0
       go_wp2_with fail
       go_returns
       exact ⟨rfl,HE.out⟩
   ·simp only [Value.slice.injEq] at hv
    obtain ⟨rfl,_,rfl⟩:=hv
    have hic':i≤c:=by have:=HC.out;omega
    clear hlt hlt'
    by_cases hck:c≤i
    ·have hce:c=i:=by omega
     subst hce
     have hKq:Kept [] W wr.drew:=HKi.out.drew
     generalize wr.drew=wq at hKq ⊢
     have HKq:=hide hKq
     have HBq:=hide (HBX.out.kept hKq (by simp))
     have HK0q:=hide (HKw.out.trans hKq (by simp))
     have hrq:=Rk.kept HH.out.r HK0q.out (by simp)
     have ka:Kept [] wq (wq.alloc (.cells #[] 73)):=(Kept.refl _ _).alloc _
     have HS1:Hid (rkO.src (wq.alloc (.cells #[] 73)) (some ⟨g,0,none⟩) c c (X.take c)):=Rk.src_take (Rk.kept hrq ka (by simp)) hi
     have c0:=(HH.out.h.kept HK0q.out (by simp)).cell 0 rfl
     have c0a:=ka.cell c0 (by simp)
     have hO0:rkO.row (wq.alloc (.cells #[] 73)) (.slice (some ⟨wq.heap.size,0,none⟩) 0 0) []:=Rk.void wq
     clear hKq b0 n0 hrq ka HKi
     go_wp2_with (at_builtin;refine Rk.appS rkO rfl _ _ rfl _ [] rfl hO0 (some ⟨g,0,none⟩) c c (X.take c) rfl HS1.out (by simp <;> omega) ?p1)
     case p1 =>
      intro v1 w1 hR1 hk1 hf1
      have hK1:Kept [] wq w1:=((Kept.refl [] wq).alloc _).trans hk1 (fun k hk=>.inr (by simp [Value.ownBlock] at hk;omega))
      have HF1:Hid (∀ k,v1.ownBlock=some k→wq.heap.size≤k):=fun k hk=>by
       rcases hf1 k hk with h1 | h1
       ·simp [Value.ownBlock] at h1;omega
       ·omega
      have HR1:Hid (rkO.row w1 v1 (X.take c)):=hR1
      have HK1:=hide hK1
      have hB1:=HBq.out.kept hK1 (by simp)
      have q0:=hB1.cell 0 rfl
      have q1:=hB1.cell 1 rfl
      have q2:=hB1.cell 2 rfl
      have HRa:Hid (rkO.row (w1.alloc (.cells #[.string (str x.n),.slice x.ao x.b.length x.c,.int .i64 x.l] 73)) v1 (X.take c)):=Rk.kept hR1 ((Kept.refl [] w1).alloc _) (by simp)
      have HNw:Hid (rkO.src (w1.alloc (.cells #[.string (str x.n),.slice x.ao x.b.length x.c,.int .i64 x.l] 73)) (some ⟨w1.heap.size,0,none⟩) 1 1 [x]):=⟨rfl,by simp,fun ad e=>by cases e;exact Rk.news (x:=x) (Bx.new w1 _ (foC x))⟩
      clear hR1 hk1 hf1 hK1 hB1 HS1 c0 c0a hO0
      go_wp2_with (at_builtin;refine Rk.appS rkO rfl _ _ rfl v1 (X.take c) rfl HRa.out (some ⟨w1.heap.size,0,none⟩) 1 1 [x] rfl HNw.out (by simp <;> omega) ?p2)
      case p2 =>
       intro v2 w2 hR2 hk2 hf2
       have hK2:Kept [] wq w2:=(HK1.out.trans ((Kept.refl [] w1).alloc _) (by simp)).trans hk2 (fun k hk=>.inr (HF1.out k (by simpa using hk)))
       have HF2:Hid (∀ k,v2.ownBlock=some k→wq.heap.size≤k):=fun k hk=>by
        rcases hf2 k hk with h1 | h1
        ·exact HF1.out k h1
        ·have:=HK1.out.size
         try simp at h1
         omega
       have HR2:Hid (rkO.row w2 v2 (X.take c++[x])):=hR2
       have HK2:=hide hK2
       have hk02:=HK0q.out.trans hK2 (by simp)
       have hrow:=Rk.kept HH.out.r hk02 (by simp)
       have c0:=(HH.out.h.kept hk02 (by simp)).cell 0 rfl
       have HS2:Hid (rkO.src w2 (some ⟨g,0,none⟩) 0 0 ([])):=⟨rfl,by simp,fun ad _ j u hu=>by simp at hu⟩
       clear hR2 hk2 hf2 hK2 hrow q0 q1 q2 HR1 HRa HNw hk02
       go_wp2_with (at_builtin;refine Rk.appS rkO rfl _ _ rfl v2 (X.take c++[x]) rfl HR2.out (some ⟨g,0,none⟩) 0 0 ([]) rfl HS2.out (by simp <;> omega) ?p3)
       case p3 =>
        intro v3 w3 hR3 hk3 hf3
        have hK3:Kept [] wq w3:=HK2.out.trans hk3 (fun k hk=>.inr (HF2.out k (by simpa using hk)))
        have hK03:Kept [] w w3:=HK0q.out.trans hK3 (by simp)
        have hF3:∀ k,v3.ownBlock=some k→w.heap.size≤k:=fun k hk=>by
         have h0:=HK0q.out.size
         rcases hf3 k hk with h1 | h1
         ·have:=HF2.out k h1;omega
         ·have:=HK2.out.size;omega
        have hR4:rkO.row w3 v3 (X.take c++(x :: X.drop c)):=by rw [List.drop_of_length_le HC.out];exact hR3
        have HE:=hide (HPO.out c HPZ.out w3 v3 hK03 hR4 hF3)
        have c0c:=hK03.cell (HH.out.h.cell 0 rfl) (by simp)
        have z0:=(HH.out.h.kept hK03 (by simp)).froz 0
        obtain ⟨ao3,cc3,hv3,_⟩:=Rk.shape hR4
        subst hv3
        generalize (X.take c++(x :: X.drop c)).length=n3 at HE ⊢
        clear hR3 hR4 hk3 hf3 hK3 hK03 hF3 c0
        go_wp2_with fail
        go_returns
        exact ⟨rfl,HE.out⟩
    ·skip
     have hKq:Kept [] W wr.drew:=HKi.out.drew
     generalize wr.drew=wq at hKq ⊢
     have HKq:=hide hKq
     have HBq:=hide (HBX.out.kept hKq (by simp))
     have HK0q:=hide (HKw.out.trans hKq (by simp))
     have hrq:=Rk.kept HH.out.r HK0q.out (by simp)
     have ka:Kept [] wq (wq.alloc (.cells #[] 73)):=(Kept.refl _ _).alloc _
     have HS1:Hid (rkO.src (wq.alloc (.cells #[] 73)) (some ⟨g,0,none⟩) i c (X.take i)):=Rk.src_take (Rk.kept hrq ka (by simp)) hi
     have c0:=(HH.out.h.kept HK0q.out (by simp)).cell 0 rfl
     have c0a:=ka.cell c0 (by simp)
     have hO0:rkO.row (wq.alloc (.cells #[] 73)) (.slice (some ⟨wq.heap.size,0,none⟩) 0 0) []:=Rk.void wq
     clear hKq b0 n0 hrq ka HKi
     go_wp2_with (at_builtin;refine Rk.appS rkO rfl _ _ rfl _ [] rfl hO0 (some ⟨g,0,none⟩) i c (X.take i) rfl HS1.out (by simp <;> omega) ?p1)
     case p1 =>
      intro v1 w1 hR1 hk1 hf1
      have hK1:Kept [] wq w1:=((Kept.refl [] wq).alloc _).trans hk1 (fun k hk=>.inr (by simp [Value.ownBlock] at hk;omega))
      have HF1:Hid (∀ k,v1.ownBlock=some k→wq.heap.size≤k):=fun k hk=>by
       rcases hf1 k hk with h1 | h1
       ·simp [Value.ownBlock] at h1;omega
       ·omega
      have HR1:Hid (rkO.row w1 v1 (X.take i)):=hR1
      have HK1:=hide hK1
      have hB1:=HBq.out.kept hK1 (by simp)
      have q0:=hB1.cell 0 rfl
      have q1:=hB1.cell 1 rfl
      have q2:=hB1.cell 2 rfl
      have HRa:Hid (rkO.row (w1.alloc (.cells #[.string (str x.n),.slice x.ao x.b.length x.c,.int .i64 x.l] 73)) v1 (X.take i)):=Rk.kept hR1 ((Kept.refl [] w1).alloc _) (by simp)
      have HNw:Hid (rkO.src (w1.alloc (.cells #[.string (str x.n),.slice x.ao x.b.length x.c,.int .i64 x.l] 73)) (some ⟨w1.heap.size,0,none⟩) 1 1 [x]):=⟨rfl,by simp,fun ad e=>by cases e;exact Rk.news (x:=x) (Bx.new w1 _ (foC x))⟩
      clear hR1 hk1 hf1 hK1 hB1 HS1 c0 c0a hO0
      go_wp2_with (at_builtin;refine Rk.appS rkO rfl _ _ rfl v1 (X.take i) rfl HRa.out (some ⟨w1.heap.size,0,none⟩) 1 1 [x] rfl HNw.out (by simp <;> omega) ?p2)
      case p2 =>
       intro v2 w2 hR2 hk2 hf2
       have hK2:Kept [] wq w2:=(HK1.out.trans ((Kept.refl [] w1).alloc _) (by simp)).trans hk2 (fun k hk=>.inr (HF1.out k (by simpa using hk)))
       have HF2:Hid (∀ k,v2.ownBlock=some k→wq.heap.size≤k):=fun k hk=>by
        rcases hf2 k hk with h1 | h1
        ·exact HF1.out k h1
        ·have:=HK1.out.size
         try simp at h1
         omega
       have HR2:Hid (rkO.row w2 v2 (X.take i++[x])):=hR2
       have HK2:=hide hK2
       have hk02:=HK0q.out.trans hK2 (by simp)
       have hrow:=Rk.kept HH.out.r hk02 (by simp)
       have c0:=(HH.out.h.kept hk02 (by simp)).cell 0 rfl
       have HS2:Hid (rkO.src w2 (some ⟨g,i*3,none⟩) (X.length - i) (c - i) (X.drop i)):=by have h1:=Rk.src_drop hrow (i:=i) hi;rw [Option.map_some,adr_addC,Nat.zero_add] at h1;exact h1
       clear hR2 hk2 hf2 hK2 hrow q0 q1 q2 HR1 HRa HNw hk02
       go_wp2_with (at_builtin;refine Rk.appS rkO rfl _ _ rfl v2 (X.take i++[x]) rfl HR2.out (some ⟨g,i*3,none⟩) (X.length - i) (c - i) (X.drop i) rfl HS2.out (by simp <;> omega) ?p3)
       case p3 =>
        intro v3 w3 hR3 hk3 hf3
        have hK3:Kept [] wq w3:=HK2.out.trans hk3 (fun k hk=>.inr (HF2.out k (by simpa using hk)))
        have hK03:Kept [] w w3:=HK0q.out.trans hK3 (by simp)
        have hF3:∀ k,v3.ownBlock=some k→w.heap.size≤k:=fun k hk=>by
         have h0:=HK0q.out.size
         rcases hf3 k hk with h1 | h1
         ·have:=HF2.out k h1;omega
         ·have:=HK2.out.size;omega
        have hR4:rkO.row w3 v3 (X.take i++(x :: X.drop i)):=hR3
        have HE:=hide (HPO.out i HPZ.out w3 v3 hK03 hR4 hF3)
        have c0c:=hK03.cell (HH.out.h.cell 0 rfl) (by simp)
        have z0:=(HH.out.h.kept hK03 (by simp)).froz 0
        obtain ⟨ao3,cc3,hv3,_⟩:=Rk.shape hR4
        subst hv3
        generalize (X.take i++(x :: X.drop i)).length=n3 at HE ⊢
        clear hR3 hR4 hk3 hf3 hK3 hK03 hF3 c0
        go_wp2_with fail
        go_returns
        exact ⟨rfl,HE.out⟩
end Go.Proofs.Yteiagkjhmhllnaa
