/-
  The program's disk: Remove, Rename. (Written by mk/mkfpren.py.)
-/
import Derived.Test.YteiagkjhmhllnaaRegG
import Derived.Test.YteiagkjhmhllnaaFpTru
namespace Go.Proofs.Yteiagkjhmhllnaa
open Go.RowKit
theorem enterRmv (a:Array Value) (w:World):Sem.run Try.prog (callFunc 57 a) w=.ok (.enter 57 a) w:=by kernel_rfl
theorem enterRen (a:Array Value) (w:World):Sem.run Try.prog (callFunc 55 a) w=.ok (.enter 55 a) w:=by kernel_rfl
theorem cell_al {w:World}{b:Nat}{v:Value}(h:w.cell? ⟨b,0,none⟩=some v) (o:Obj):(w.alloc o).cell? ⟨b,0,none⟩=some v:=((Kept.refl [] w).alloc o).cell h (by simp)
theorem cell_nw (w:World) {v:Value}{T:TypeId}{b:Nat}(hb:b=w.heap.size):(w.alloc (.cells #[v] T)).cell? ⟨b,0,none⟩=some v:=by subst hb;exact (Bx.new w T [v]).cell 0 rfl
theorem renG {L:List Fl}(h:RisG Fl.n L) {n t:List UInt8}{i:Nat}(hf:findF n L=some i) (hi:i < L.length):insG Fl.n ⟨t,L[i].b,L[i].l⟩ (delG Fl.n t (delG Fl.n n L))=if n≠t then renL L i t else L:=by
 obtain ⟨_,hn⟩:=findF_lt hf
 by_cases e:n=t
 ·subst e
  rw [if_neg (by simp)]
  have h1:delG Fl.n n (delG Fl.n n L)=delG Fl.n n L:=delG_no Fl.n fun x hx=>((mem_delG Fl.n).1 hx).2
  rw [h1]
  have h2:=insG_self Fl.n h (List.getElem_mem hi)
  rw [hn] at h2
  have h3:(⟨n,L[i].b,L[i].l⟩:Fl)=L[i]:=by rw [← hn]
  rw [h3,h2]
 ·rw [if_pos e,renL_eq L i hi t,inF_ins]
  unfold renM
  rw [outF_del h hi hn]
  cases hk:findF t (delG Fl.n n L) with
  | none=>rw [delG_no Fl.n (findF_none hk)]
  | some k =>
    obtain ⟨h1,h2⟩:=findF_lt hk
    simp only
    rw [outF_del (risG_del Fl.n h n) h1 h2]
section
variable {w : World} {O : List Nat} {p mb : Nat} {q : Int} {d : Dk} {X : List Pm}
theorem AtP.off (h:AtP w O p mb q d X) {i:Nat}(hi:i < X.length) {n:List UInt8}(hn:X[i].n=n):∀ a∈pmB X[i],a ∉ p :: mb :: blX (delG Pm.n n X):=fun a ha hm=>by
 have hx:=List.getElem_mem hi
 rcases List.mem_cons.1 hm with rfl | hm
 ·exact (h.xp hx ha).1 rfl
 rcases List.mem_cons.1 hm with rfl | hm
 ·exact (h.xp hx ha).2 rfl
 obtain ⟨x,hx',hax⟩:=List.mem_flatMap.1 hm
 obtain ⟨h1,h2⟩:=(mem_delG Pm.n).1 hx'
 have h3:x∈X.take i++X.drop (i+1):=by
  have e1:X=X.take i++(X[i] :: X.drop (i+1)):=by rw [List.getElem_cons_drop,List.take_append_drop]
  rw [e1] at h1
  rcases List.mem_append.1 h1 with h1 | h1
  ·exact List.mem_append_left _ h1
  ·rcases List.mem_cons.1 h1 with h1 | h1
   ·exact absurd (by rw [h1];exact hn) h2
   ·exact List.mem_append_right _ h1
 obtain ⟨hnd,_,_⟩:=h.nX
 exact (List.nodup_append.1 ((blX_get X i hi).nodup_iff.1 hnd)).2.2 a ha a (List.mem_flatMap.2 ⟨x,h3,hax⟩) rfl
theorem blO_sub (h:AtP w O p mb q d X) (n:List UInt8):∀ k∈p :: mb :: blX (delG Pm.n n X),k∈O:=fun k hk=>by
 rcases List.mem_cons.1 hk with rfl | hk
 ·exact h.pO
 rcases List.mem_cons.1 hk with rfl | hk
 ·exact h.mO
 rw [h.b]
 simp [(blX_sub (delG_sub Pm.n n X)).mem hk]
set_option linter.unusedSimpArgs false in
set_option maxHeartbeats 8000000 in
set_option maxRecDepth 100000 in
theorem rmv1_call (h:AtP w O p mb q d X) {n:List UInt8}(hn:n.length≤1000000) {i:Nat}(hf:findF n d.L=some i) (b0 b1:Nat) (k0:w.cell? ⟨b0,0,none⟩=some (.pointer (some ⟨p,0,none⟩))) (k1:w.cell? ⟨b1,0,none⟩=some (.string (str n))) :
 Calls Try.prog 57 #[.pointer (some ⟨b0,0,none⟩),.pointer (some ⟨b1,0,none⟩)] w fun e w'=>e=.returned (.tuple #[])∧UpP w O p mb q ⟨outF d.L i,d.s,d.f,d.d⟩ w':=by
 have c0:=h.h.cell 0 rfl
 have HH:=hide h
 have HE:Hid (outF d.L i=delG Fl.n n d.L):=by obtain ⟨h1,h2⟩:=findF_lt hf;exact outF_del h.sD h1 h2
 have hs0:w.cell? ⟨b0,0,none⟩=some (.pointer (some ⟨p,0,none⟩))∧w.cell? ⟨b1,0,none⟩=some (.string (str n))∧w.cell? ⟨p,0,none⟩=some (.map (some mb)):=⟨k0,k1,c0⟩
 have HSx:Hid (∀ w9,Kept [mb] w w9→w9.cell? ⟨b0,0,none⟩=some (.pointer (some ⟨p,0,none⟩))∧w9.cell? ⟨b1,0,none⟩=some (.string (str n))∧w9.cell? ⟨p,0,none⟩=some (.map (some mb))):=fun w9 k=>by
  have hb:∀ b v,w.cell? ⟨b,0,none⟩=some v→b ∉ [mb]:=fun b v hv hm=>by
   simp at hm;subst hm
   obtain ⟨es,cl,h1,_⟩:=h.m
   simp [World.cell?,h1] at hv
  exact ⟨k.cell k0 (hb _ _ k0),k.cell k1 (hb _ _ k1),k.cell c0 (hb _ _ c0)⟩
 clear h hf
 go_enter Try.func57,Try.ntmps57
 go_upto_region 0 with fail
 refine wp_region_held_drew (S:=fun w9=>w9.cell? ⟨b0,0,none⟩=some (.pointer (some ⟨p,0,none⟩))∧w9.cell? ⟨b1,0,none⟩=some (.string (str n))∧w9.cell? ⟨p,0,none⟩=some (.map (some mb))) (by kernel_rfl) hs0 (fun hHeld=>?_)
 try simp only [List.append_eq,List.cons_append,List.nil_append]
 refine tks [0,1,2,3,4] (by rfl) (by kernel_rfl) (fun _ _ _ _ _ h=>h) hHeld ?_
 iterate 5
  refine yk ?_ rfl (Or.inl ⟨by rfl,?_⟩) ?_
  rotate_left
  ·intro w9 hSw;obtain ⟨m0,m1,m2⟩:=hSw;go_simp;(try with_reducible rfl)
  try simp only [sT,Act.put]
 refine yk0 ?_
 simp only [setK,sT]
 refine rd1 5 (by kernel_rfl) rfl (fun K0 hK0=>?_)
 rw [if_pos (by rfl)]
 refine op_delF _ _ rfl mb _ _ (map_keptF (Kept.refl [] w).drew HH.out.m (by simp)) rfl n hn rfl ?_
 intro w4 hm4 hg4
 obtain ⟨h4,hk4⟩:=HH.out.del (Kept.refl [] w).drew (by simp) n hm4 hg4
 have hK4:Kept [mb] w w4:=(Kept.mono (S:=[]) (Kept.refl [] w).drew (by simp)).trans hk4 (by simp)
 have H4:=hide h4
 have HK4:=hide hK4
 have hs4:=HSx.out w4 hK4
 clear hm4 hg4 h4 hk4 hK4 hHeld
 refine hK0.out _ _ hs4 (fun hHeld=>?_)
 clear hK0 K0 hHeld hs4
 try simp only [sT,Act.put]
 refine wpAnyH_done (by kernel_rfl) ?_ _
 go_wp2_with fail
 go_end0
 rw [HE.out]
 exact ⟨rfl,_,_,H4.out,HK4.out.mono (by simp [HH.out.mO]),fun k hk=>.inl (blO_sub HH.out n k hk)⟩
set_option linter.unusedSimpArgs false in
set_option maxHeartbeats 8000000 in
set_option maxRecDepth 100000 in
theorem ren1_call (h:AtP w O p mb q d X) {n t:List UInt8}(hn:n.length≤1000000) (ht:t.length≤1000000) (hX:X.length≤100000000) {i:Nat}(hf:findF n d.L=some i) (b0 b1 b2 b3:Nat) (k0:w.cell? ⟨b0,0,none⟩=some (.pointer (some ⟨p,0,none⟩))) (k1:w.cell? ⟨b1,0,none⟩=some (.string (str n)))
 (k2:w.cell? ⟨b2,0,none⟩=some (plP X (some i))) (k3:w.cell? ⟨b3,0,none⟩=some (.string (str t))) :
 Calls Try.prog 55 #[.pointer (some ⟨b0,0,none⟩),.pointer (some ⟨b1,0,none⟩),.pointer (some ⟨b2,0,none⟩),.pointer (some ⟨b3,0,none⟩)] w fun e w'=>e=.returned (.tuple #[])∧UpP w O p mb q ⟨if n≠t then renL d.L i t else d.L,d.s,d.f,d.d⟩ w':=by
 have c0:=h.h.cell 0 rfl
 have HH:=hide h
 obtain ⟨LL,hLL⟩:∃ LL,LL=(if n≠t then renL d.L i t else d.L):=⟨_,rfl⟩
 rw [← hLL]
 obtain ⟨hi,hiL,hxn,he⟩:=h.got hf
 rw [plP_some hi] at k2
 have HE:Hid (insG Fl.n (⟨t,X[i].b,X[i].l,X[i].k,X[i].ao,X[i].c⟩:Pm).fl (delG Fl.n t (delG Fl.n n d.L))=LL):=by
  show _=_
  rw [hLL,← renG h.sD hf hiL,he];rfl
 have HXl:Hid ((delG Pm.n n X).length≤1000000000):=by show _≤_;have:=(delG_sub Pm.n n X).length_le;omega
 have HOF:=hide (h.off hi hxn)
 have HC:Hid (Bx w X[i].k 61 [X[i].v,.int .i64 X[i].l]∧Own w X[i].v X[i].b∧(pmB X[i]).Nodup∧mb ∉ pmB X[i]∧∀ a∈pmB X[i],a∈O):=by
  have hx:=List.getElem_mem hi
  refine ⟨h.c _ hx,h.o _ hx,?_,fun e=>(h.xp hx e).2 rfl,fun a ha=>h.xO hx ha⟩
  obtain ⟨hnd,_,_⟩:=h.nX
  exact (List.nodup_append.1 ((blX_get X i hi).nodup_iff.1 hnd)).1
 obtain ⟨y,hy⟩:∃ y,y=X[i]:=⟨_,rfl⟩
 rw [← hy] at k2 HE HOF HC
 have hs0:w.cell? ⟨b0,0,none⟩=some (.pointer (some ⟨p,0,none⟩))∧w.cell? ⟨b1,0,none⟩=some (.string (str n))∧w.cell? ⟨p,0,none⟩=some (.map (some mb)):=⟨k0,k1,c0⟩
 have HSx:Hid (∀ w9,Kept [mb] w w9→(w9.cell? ⟨b0,0,none⟩=some (.pointer (some ⟨p,0,none⟩))∧w9.cell? ⟨b1,0,none⟩=some (.string (str n))∧w9.cell? ⟨p,0,none⟩=some (.map (some mb)))∧(w9.cell? ⟨b0,0,none⟩=some (.pointer (some ⟨p,0,none⟩))∧w9.cell? ⟨b3,0,none⟩=some (.string (str t))∧w9.cell? ⟨b2,0,none⟩=some (.pointer (some ⟨y.k,0,none⟩))∧w9.cell? ⟨p,0,none⟩=some (.map (some mb)))):=fun w9 k=>by
  have hb:∀ b v,w.cell? ⟨b,0,none⟩=some v→b ∉ [mb]:=fun b v hv hm=>by
   simp at hm;subst hm
   obtain ⟨es,cl,h1,_⟩:=h.m
   simp [World.cell?,h1] at hv
  exact ⟨⟨k.cell k0 (hb _ _ k0),k.cell k1 (hb _ _ k1),k.cell c0 (hb _ _ c0)⟩,k.cell k0 (hb _ _ k0),k.cell k3 (hb _ _ k3),k.cell k2 (hb _ _ k2),k.cell c0 (hb _ _ c0)⟩
 have hcl:=fun w9=>cloneF_call t w9 ht
 have cC:=hide hcl
 clear h hf he hxn hcl hiL c0 k0 k1 k2 k3 hy hLL
 go_enter Try.func55,Try.ntmps55
 go_upto_region 0 with fail
 refine wp_region_held_drew (S:=fun w9=>w9.cell? ⟨b0,0,none⟩=some (.pointer (some ⟨p,0,none⟩))∧w9.cell? ⟨b1,0,none⟩=some (.string (str n))∧w9.cell? ⟨p,0,none⟩=some (.map (some mb))) (by kernel_rfl) hs0 (fun hHeld=>?_)
 try simp only [List.append_eq,List.cons_append,List.nil_append]
 refine tks [0,1,2,3,4] (by rfl) (by kernel_rfl) (fun _ _ _ _ _ h=>h) hHeld ?_
 iterate 5
  refine yk ?_ rfl (Or.inl ⟨by rfl,?_⟩) ?_
  rotate_left
  ·intro w9 hSw;obtain ⟨m0,m1,m2⟩:=hSw;go_simp;(try with_reducible rfl)
  try simp only [sT,Act.put]
 refine yk0 ?_
 simp only [setK,sT]
 refine rd1 5 (by kernel_rfl) rfl (fun K0 hK0=>?_)
 rw [if_pos (by rfl)]
 refine op_delF _ _ rfl mb _ _ (map_keptF (Kept.refl [] w).drew HH.out.m (by simp)) rfl n hn rfl ?_
 intro w4 hm4 hg4
 obtain ⟨h4,hk4⟩:=HH.out.del (Kept.refl [] w).drew (by simp) n hm4 hg4
 have hK4:Kept [mb] w w4:=(Kept.mono (S:=[]) (Kept.refl [] w).drew (by simp)).trans hk4 (by simp)
 have H4:=hide h4
 have HK4:=hide hK4
 obtain ⟨hs4,hs5⟩:=HSx.out w4 hK4
 clear hm4 hg4 h4 hk4 hK4 hHeld hs0
 refine hK0.out _ _ hs4 (fun hHeld=>?_)
 clear hK0 K0 hHeld hs4
 try simp only [sT,Act.put]
 refine wpAnyH_done (by kernel_rfl) ?_ _
 go_upto_region 1 with fail
 refine wp_region_held_drew (S:=fun w9=>w9.cell? ⟨b0,0,none⟩=some (.pointer (some ⟨p,0,none⟩))∧w9.cell? ⟨b3,0,none⟩=some (.string (str t))∧w9.cell? ⟨b2,0,none⟩=some (.pointer (some ⟨y.k,0,none⟩))∧w9.cell? ⟨p,0,none⟩=some (.map (some mb))) (by kernel_rfl) hs5 (fun hHeld=>?_)
 try simp only [List.append_eq,List.cons_append,List.nil_append]
 refine tks [0,1,2,3,4,6] (by rfl) (by kernel_rfl) (fun _ _ _ _ _ h=>h) hHeld ?_
 iterate 6
  refine yk ?_ rfl (Or.inl ⟨by rfl,?_⟩) ?_
  rotate_left
  ·intro w9 hSw;obtain ⟨m0,m1,m2,m3⟩:=hSw;go_simp;(try with_reducible rfl)
  try simp only [sT,Act.put]
 refine yk0 ?_
 simp only [setK,sT]
 refine rd1 5 (by kernel_rfl) rfl (fun K0 hK0=>?_)
 go_simp
 refine (cC.out _).mono ?_
 rintro _ w5 ⟨rfl,hk5⟩
 have hK5:Kept [] w4 w5:=(Kept.refl [] w4).drew.trans hk5 (by simp)
 have HK5:=hide hK5
 have HK45:Hid (Kept [mb] w w5):=HK4.out.trans hK5 (by simp)
 obtain ⟨_,hs6⟩:=HSx.out w5 HK45.out
 clear hk5 hK5 hHeld hs5
 go_wp2_with fail
 refine hK0.out _ _ hs6 (fun hHeld=>?_)
 clear hK0 K0 hs6
 try simp only [sT,Act.put]
 refine rd1 7 (by kernel_rfl) rfl (fun K0 hK0=>?_)
 rw [if_pos (by rfl)]
 refine op_mapF _ _ _ rfl mb _ _ (map_keptF HK5.out H4.out.m (by simp)) HXl.out rfl t ht rfl y.k rfl ?_
 intro w6 hm6 hg6
 obtain ⟨hc1,hc2,hc3,hc4,hc5⟩:=HC.out
 obtain ⟨h6,hk6⟩:=H4.out.put HK5.out (by simp) ⟨t,y.b,y.l,y.k,y.ao,y.c⟩ (hc1.kept HK45.out (by simp;exact fun e=>hc4 (by rw [← e];exact pmB_k y))) (HK45.out.ownsRow hc2 (fun a ha hm=>by simp at hm;subst hm;exact hc4 (pmB_v ha))) HOF.out hc3 ht hm6 hg6
 have H6:=hide h6
 have HK6:Hid (Kept [mb] w w6):=HK45.out.trans hk6 (by simp)
 obtain ⟨_,hs7⟩:=HSx.out w6 HK6.out
 clear hm6 hg6 h6 hk6 hHeld
 refine hK0.out _ _ hs7 (fun hHeld=>?_)
 clear hK0 K0 hHeld hs7
 try simp only [sT,Act.put]
 refine wpAnyH_done (by kernel_rfl) ?_ _
 go_wp2_with fail
 go_end0
 rw [← HE.out]
 refine ⟨rfl,_,_,H6.out,HK6.out.mono (by simp [HH.out.mO]),fun k hk=>?_⟩
 rcases List.mem_cons.1 hk with rfl | hk
 ·exact .inl HH.out.pO
 rcases List.mem_cons.1 hk with rfl | hk
 ·exact .inl HH.out.mO
 obtain ⟨x,hx,hk⟩:=List.mem_flatMap.1 hk
 rcases (mem_insG Pm.n).1 hx with rfl | hx
 ·exact .inl (HC.out.2.2.2.2 k hk)
 ·exact .inl (HH.out.xO ((delG_sub _ _ _).mem ((delG_sub _ _ _).mem hx)) hk)
set_option linter.unusedSimpArgs false in
set_option maxHeartbeats 8000000 in
set_option maxRecDepth 100000 in
theorem rmvP_call (h:AtP w O p mb q d X) (hb:BdD d) (n:List UInt8) (hn:n.length≤1000000) :
 Calls Try.prog 24 #[.pointer (some ⟨p,0,none⟩),.string (str n)] w fun e w'=>e=.returned (.int .i64 (rmvF n d).2)∧FqP p w O (rmvF n d).1 w':=by
 have HH:=hide h
 have cF:=hide (fun W (kw:Kept [] w W)=>fndF_call (h.kept kw (by simp)) n hn)
 have hmf:=makeF
 cases hdd:d.d
 rotate_left
 ·have HE:Hid (rmvF n d=(d,7)):=by show _=_;unfold rmvF;rw [if_pos hdd]
  rw [fnP_dead hdd] at cF
  clear h hb
  go_enter Try.func24,Try.ntmps24
  go_wp2_with (first | (go_at_call 41;refine (cF.out _ (by exact ((Kept.refl _ _).alloc _).alloc _)).mono ?_;clear cF;rintro _ w1 ⟨rfl,hw1⟩;obtain rfl:=hw1.symm) | (go_at_call 42;refine (doF_no _ _ _ (by decide) _).mono ?_;rintro _ w2 ⟨rfl,hw2⟩;obtain rfl:=hw2.symm))
  go_ret
  rw [HE.out]
  exact ⟨rfl,FqP.same HH.out (by exact ((Kept.refl _ _).alloc _).alloc _)⟩
 cases hF:findF n d.L with
 | none =>
   have HE:Hid (rmvF n d=(d,8)):=by show _=_;unfold rmvF;rw [hdd,hF];rfl
   rw [fnP_none hdd hF] at cF
   clear h hb
   go_enter Try.func24,Try.ntmps24
   go_wp2_with (first | (go_at_call 41;refine (cF.out _ (by exact ((Kept.refl _ _).alloc _).alloc _)).mono ?_;clear cF;rintro _ w1 ⟨rfl,hw1⟩;obtain rfl:=hw1.symm) | (go_at_call 42;refine (doF_no _ _ _ (by decide) _).mono ?_;rintro _ w2 ⟨rfl,hw2⟩;obtain rfl:=hw2.symm))
   go_ret
   rw [HE.out]
   exact ⟨rfl,FqP.same HH.out (by exact ((Kept.refl _ _).alloc _).alloc _)⟩
 | some i =>
   have HE:=hide (rmvF_ok hdd hF)
   rw [fnP_some hdd hF] at cF
   obtain ⟨hi,hiL,_,he⟩:=h.got hF
   rw [plP_some hi] at cF
   have hcD:∀ w1 b0 b1,Kept [] w w1→w.heap.size≤b0→w.heap.size≤b1→w1.cell? ⟨b0,0,none⟩=some (.pointer (some ⟨p,0,none⟩))→w1.cell? ⟨b1,0,none⟩=some (.string (str n))→Calls Try.prog 42 #[.pointer (some ⟨p,0,none⟩),.int .i64 0,.func (.func 57) #[] #[.pointer (some ⟨b0,0,none⟩),.pointer (some ⟨b1,0,none⟩)]] w1 fun e w'=>e=.returned (.int .i64 (rmvF n d).2)∧FqP p w1 O (rmvF n d).1 w':=fun w1 b0 b1 k1 hb0 hb1 h0 h1=>by
    rw [HE.out]
    refine doF_call (h.kept k1 (by simp)) hb.s hb.f _ enterRmv _ ⟨outF d.L i,(stepF d).1.s,(stepF d).1.f,(stepF d).1.d⟩ (fun _ W q' hW kW=>?_)
    refine (rmv1_call hW hn (by rw [stepF_L];exact hF) b0 b1 (kW.cell h0 (by simp;have:=h.h.lt;omega)) (kW.cell h1 (by simp;have:=h.h.lt;omega))).mono ?_
    rintro _ w' ⟨rfl,hu⟩
    rw [stepF_L] at hu
    exact ⟨rfl,hu.fq⟩
   have cD:=hide hcD
   generalize X[i].k=g at *
   clear h hb hcD he
   go_enter Try.func24,Try.ntmps24
   go_wp2_with (first | (go_at_call 41;refine (cF.out _ (by exact ((Kept.refl _ _).alloc _).alloc _)).mono ?_;clear cF;rintro _ w1 ⟨rfl,hw1⟩;obtain rfl:=hw1.symm) | (go_at_call 42;refine (cD.out _ _ _ (by exact ((Kept.refl _ _).alloc _).alloc _) (by simp) (by simp) (by simp) (by simp)).mono ?_;clear cD;rintro _ w2 ⟨rfl,hq⟩;have HQ:=hide hq;clear hq))
   go_ret
   exact ⟨rfl,FqP.trans (Kept.mono (S:=[]) (by exact ((Kept.refl _ _).alloc _).alloc _) (by simp)) (fun _ hk=>.inl hk) HQ.out⟩
set_option linter.unusedSimpArgs false in
set_option maxHeartbeats 8000000 in
set_option maxRecDepth 100000 in
theorem renP_call (h:AtP w O p mb q d X) (hb:BdD d) (n t:List UInt8) (hn:n.length≤1000000) (ht:t.length≤1000000) :
 Calls Try.prog 22 #[.pointer (some ⟨p,0,none⟩),.string (str n),.string (str t)] w fun e w'=>e=.returned (.int .i64 (renF n t d).2)∧FqP p w O (renF n t d).1 w':=by
 have HH:=hide h
 have cF:=hide (fun W (kw:Kept [] w W)=>fndF_call (h.kept kw (by simp)) n hn)
 have hmf:=makeF
 cases hdd:d.d
 rotate_left
 ·have HE:Hid (renF n t d=(d,7)):=by show _=_;unfold renF;rw [if_pos hdd]
  rw [fnP_dead hdd] at cF
  clear h hb
  go_enter Try.func22,Try.ntmps22
  go_wp2_with (first | (go_at_call 41;refine (cF.out _ (by exact (((Kept.refl _ _).alloc _).alloc _).alloc _)).mono ?_;clear cF;rintro _ w1 ⟨rfl,hw1⟩;obtain rfl:=hw1.symm) | (go_at_call 42;refine (doF_no _ _ _ (by decide) _).mono ?_;rintro _ w2 ⟨rfl,hw2⟩;obtain rfl:=hw2.symm))
  go_ret
  rw [HE.out]
  exact ⟨rfl,FqP.same HH.out (by first | exact (((((Kept.refl _ _).alloc _).alloc _).alloc _).alloc _).setCell (.inr (by simp;try omega)) _ | exact ((((Kept.refl _ _).alloc _).alloc _).alloc _).alloc _)⟩
 cases hF:findF n d.L with
 | none =>
   have HE:Hid (renF n t d=(d,8)):=by show _=_;unfold renF;rw [hdd,hF];rfl
   rw [fnP_none hdd hF] at cF
   clear h hb
   go_enter Try.func22,Try.ntmps22
   go_wp2_with (first | (go_at_call 41;refine (cF.out _ (by exact (((Kept.refl _ _).alloc _).alloc _).alloc _)).mono ?_;clear cF;rintro _ w1 ⟨rfl,hw1⟩;obtain rfl:=hw1.symm) | (go_at_call 42;refine (doF_no _ _ _ (by decide) _).mono ?_;rintro _ w2 ⟨rfl,hw2⟩;obtain rfl:=hw2.symm))
   go_ret
   rw [HE.out]
   exact ⟨rfl,FqP.same HH.out (by first | exact (((((Kept.refl _ _).alloc _).alloc _).alloc _).alloc _).setCell (.inr (by simp;try omega)) _ | exact ((((Kept.refl _ _).alloc _).alloc _).alloc _).alloc _)⟩
 | some i =>
   rw [fnP_some hdd hF] at cF
   obtain ⟨hi,hiL,_,he⟩:=h.got hF
   rw [plP_some hi] at cF
   have hcN:=fun w9=>isNameF_call w9 t
   cases htn:nameF t
   ·have HE:=hide (renF_no hdd hF htn)
    rw [htn] at hcN
    have cN:=hide hcN
    generalize X[i].k=g at *
    clear h hb hcN he
    go_enter Try.func22,Try.ntmps22
    go_wp2_with (first | (go_at_call 41;refine (cF.out _ (by exact (((Kept.refl _ _).alloc _).alloc _).alloc _)).mono ?_;clear cF;rintro _ w1 ⟨rfl,hw1⟩;obtain rfl:=hw1.symm) | (go_at_call 37;refine (cN.out _).mono ?_;clear cN;rintro _ w1 ⟨rfl,hw1⟩;obtain rfl:=hw1.symm) | (go_at_call 42;refine (doF_no _ _ _ (by decide) _).mono ?_;rintro _ w2 ⟨rfl,hw2⟩;obtain rfl:=hw2.symm))
    go_ret
    rw [HE.out]
    exact ⟨rfl,FqP.same HH.out (by first | exact (((((Kept.refl _ _).alloc _).alloc _).alloc _).alloc _).setCell (.inr (by simp;try omega)) _ | exact ((((Kept.refl _ _).alloc _).alloc _).alloc _).alloc _)⟩
   ·have HE:=hide (renF_ok hdd hF htn)
    rw [htn] at hcN
    have cN:=hide hcN
    have hX:X.length≤100000000:=by rw [h.len];have:=hb.n;omega
    have hcD:∀ w1 b0 b1 b2 b3,Kept [] w w1→w.heap.size≤b0→w.heap.size≤b1→w.heap.size≤b2→w.heap.size≤b3→w1.cell? ⟨b0,0,none⟩=some (.pointer (some ⟨p,0,none⟩))→w1.cell? ⟨b1,0,none⟩=some (.string (str n))→w1.cell? ⟨b2,0,none⟩=some (plP X (some i))→w1.cell? ⟨b3,0,none⟩=some (.string (str t))→Calls Try.prog 42 #[.pointer (some ⟨p,0,none⟩),.int .i64 0,.func (.func 55) #[] #[.pointer (some ⟨b0,0,none⟩),.pointer (some ⟨b1,0,none⟩),.pointer (some ⟨b2,0,none⟩),.pointer (some ⟨b3,0,none⟩)]] w1 fun e w'=>e=.returned (.int .i64 (renF n t d).2)∧FqP p w1 O (renF n t d).1 w':=fun w1 b0 b1 b2 b3 k1 hb0 hb1 hb2 hb3 h0 h1 h2 h3=>by
     have hp:=h.h.lt
     refine (doF_call (h.kept k1 (by simp)) hb.s hb.f _ enterRen _ ⟨if n≠t then renL d.L i t else d.L,(stepF d).1.s,(stepF d).1.f,(stepF d).1.d⟩ (fun _ W q' hW kW=>?_)).mono ?_
     ·refine (ren1_call hW hn ht hX (by rw [stepF_L];exact hF) b0 b1 b2 b3 (kW.cell h0 (by simp;omega)) (kW.cell h1 (by simp;omega)) (kW.cell h2 (by simp;omega)) (kW.cell h3 (by simp;omega))).mono ?_
      rintro _ w' ⟨rfl,hu⟩
      rw [stepF_L] at hu
      exact ⟨rfl,hu.fq⟩
     ·rintro e w' ⟨rfl,hq⟩
      rw [HE.out]
      refine ⟨rfl,?_⟩
      by_cases e:n=t
      ·rw [if_neg (by simp [e])]
       simp only [e,ne_eq,not_true_eq_false,if_false] at hq
       rw [← stepF_L d] at hq
       simpa using hq
      ·simp only [ne_eq,e,not_false_eq_true,if_true,and_true] at hq ⊢
       exact hq
    have cD:=hide hcD
    rw [plP_some hi] at cD
    generalize X[i].k=g at *
    have cD4:=hide (cD.out ((((w.alloc (.cells #[.pointer (some ⟨p,0,none⟩)] 23)).alloc (.cells #[.string (str n)] 9)).alloc (.cells #[.string (str t)] 9)).alloc (.cells #[.pointer (some ⟨g,0,none⟩)] 59)) w.heap.size (w.heap.size+1) (w.heap.size+1+1+1) (w.heap.size+1+1) (((((Kept.refl _ _).alloc _).alloc _).alloc _).alloc _) (by omega) (by omega) (by omega) (by omega) (cell_al (cell_al (cell_al (cell_nw _ rfl) _) _) _) (cell_al (cell_al (cell_nw _ (by simp)) _) _) (cell_nw _ (by simp)) (cell_al (cell_nw _ (by simp)) _))
    clear h hb hcD he hcN cD
    go_enter Try.func22,Try.ntmps22
    go_wp2_with (first | (go_at_call 41;refine (cF.out _ (by exact (((Kept.refl _ _).alloc _).alloc _).alloc _)).mono ?_;clear cF;rintro _ w1 ⟨rfl,hw1⟩;obtain rfl:=hw1.symm) | (go_at_call 37;refine (cN.out _).mono ?_;clear cN;rintro _ w1 ⟨rfl,hw1⟩;obtain rfl:=hw1.symm))
    refine cD4.out.mono ?_
    clear cD4
    rintro _ w2 ⟨rfl,hq⟩
    have HQ:=hide hq
    clear hq
    go_wp2_with fail
    go_ret
    exact ⟨rfl,FqP.trans (Kept.mono (S:=[]) (by first | exact (((((Kept.refl _ _).alloc _).alloc _).alloc _).alloc _).setCell (.inr (by simp;try omega)) _ | exact ((((Kept.refl _ _).alloc _).alloc _).alloc _).alloc _) (by simp)) (fun _ hk=>.inl hk) HQ.out⟩
end
end Go.Proofs.Yteiagkjhmhllnaa
