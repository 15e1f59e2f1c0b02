/-
  The document's disk: step, out, in.
-/
import Derived.Test.YteiagkjhmhllnaaFdMem
namespace Go.Proofs.Yteiagkjhmhllnaa
open Go.RowKit
theorem AtD.head {w w':World}{O:List Nat}{p:Nat}{d d':Dk}{v:Value}{X:List Fm}(h:AtD w O p d v X) (hB:Bx w' p 70 [v,.int .i64 d'.s,.int .i64 d'.f,.bool d'.d]) (k:Kept [p] w w') (hL:d'.L=d.L):AtD w' O p d' v X:=by
 have hn:=h.n
 rw [h.b] at hn
 have hp:=(List.nodup_cons.1 hn).1
 refine ⟨hB,Rk.kept h.r k (fun i hi hm=>?_),fun x hx=>k.ownsRow (h.o x hx) (fun i hi hm=>?_),h.L.trans hL.symm,h.b,h.n⟩
 ·simp at hm;subst hm
  exact hp (List.mem_append_left _ (by rw [hi];simp))
 ·simp at hm;subst hm
  exact hp (List.mem_append_right _ (List.mem_flatMap.2 ⟨x,hx,by simp [hi]⟩))
theorem Bx.set4 {w:World}{b:Nat}{T:TypeId}{a0 a1 a2 a3:Value}(h:Bx w b T [a0,a1,a2,a3]) (j:Nat) (u:Value):Bx (w.setCell ⟨b,j,none⟩ u) b T ([a0,a1,a2,a3].set j u):=h.set j u
set_option maxHeartbeats 4000000 in
set_option maxRecDepth 100000 in
theorem dstepF_call {w:World}{O:List Nat}{p:Nat}{d:Dk}{v:Value}{X:List Fm}(h:AtD w O p d v X) (hs:0≤d.s∧d.s≤1000000000000) (hf:-1≤d.f∧d.f < 9223372036854775808) :
 Calls Try.prog 48 #[.pointer (some ⟨p,0,none⟩)] w fun e w'=>e=.returned (.bool (stepF d).2)∧AtD w' O p (stepF d).1 v X∧Kept [p] w w':=by
 obtain ⟨L,s,f,dd⟩:=d
 have HH:=hide h
 have hB:=h.h
 simp only at hB hs hf
 have c1:=hB.cell 1 rfl
 have c2:=hB.cell 2 rfl
 have z1:=hB.froz 1
 have z2:=hB.froz 2
 have z3:=hB.froz 3
 have k1:Kept [p] w (w.setCell ⟨p,1,none⟩ (.int .i64 (s+1))):=(Kept.refl _ _).setCell (by simp) _
 have hs1:IntKind.i64.wrap (s+1)=s+1:=IntWalk.i64_in _ (by omega)
 obtain ⟨W,hW⟩:∃ W,W=w.setCell ⟨p,1,none⟩ (.int .i64 (s+1)):=⟨_,rfl⟩
 have HW:=hide hW
 have HB1:Hid (Bx W p 70 [v,.int .i64 (s+1),.int .i64 f,.bool dd]):=by rw [hW];exact hB.set 1 _
 rw [← hW] at k1
 have HK1:=hide k1
 clear hB h hW k1
 by_cases h0:f=0
 ·subst h0
  have HE:Hid (stepF ⟨L,s,0,dd⟩=(⟨L,s+1,0,true⟩,false)):=by show _=_;unfold stepF;rw [if_pos rfl]
  go_enter Try.func48,Try.ntmps48
  go_upto_region 2 with fail
  rw [← HW.out]
  clear c1 c2 z1 z2 z3
  have c2:=HB1.out.cell 2 rfl
  have c3:=HB1.out.cell 3 rfl
  have z3:=HB1.out.froz 3
  go_wp2_with fail
  go_ret
  rw [HE.out]
  exact ⟨rfl,HH.out.head (HB1.out.set 3 (.bool true)) (HK1.out.setCell (.inl (by simp)) _) rfl,HK1.out.setCell (.inl (by simp)) _⟩
 ·by_cases h1:0 < f
  ·have HE:Hid (stepF ⟨L,s,f,dd⟩=(⟨L,s+1,f - 1,dd⟩,true)):=by show _=_;unfold stepF;rw [if_neg h0,if_pos h1]
   go_enter Try.func48,Try.ntmps48
   go_upto_region 2 with fail
   rw [← HW.out]
   clear c1 c2 z1 z2 z3
   have c2:=HB1.out.cell 2 rfl
   have z2:=HB1.out.froz 2
   go_wp2_with fail
   go_ret
   rw [HE.out]
   exact ⟨rfl,HH.out.head (HB1.out.set 2 (.int .i64 (f - 1))) (HK1.out.setCell (.inl (by simp)) _) rfl,HK1.out.setCell (.inl (by simp)) _⟩
  ·have HE:Hid (stepF ⟨L,s,f,dd⟩=(⟨L,s+1,f,dd⟩,true)):=by show _=_;unfold stepF;rw [if_neg h0,if_neg h1]
   go_enter Try.func48,Try.ntmps48
   go_upto_region 2 with fail
   rw [← HW.out]
   clear c1 c2 z1 z2 z3
   have c2:=HB1.out.cell 2 rfl
   go_wp2_with fail
   go_ret
   rw [HE.out]
   exact ⟨rfl,HH.out.head HB1.out HK1.out rfl,HK1.out⟩
def blF (X:List Fm):List Nat:=X.flatMap fun x=>x.v.ownBlock.toList
theorem AtD.blk {w:World}{O:List Nat}{p:Nat}{d:Dk}{v:Value}{X:List Fm}(h:AtD w O p d v X):(blF X).Nodup∧∀ k∈blF X,k≠p∧k∈O:=by
 have hn:=h.n
 rw [h.b] at hn
 obtain ⟨h1,h2⟩:=List.nodup_cons.1 hn
 refine ⟨(List.nodup_append.1 h2).2.1,fun k hk=>⟨fun e=>?_,?_⟩⟩
 ·subst e;exact h1 (List.mem_append_right _ hk)
 ·rw [h.b];exact List.mem_cons_of_mem _ (List.mem_append_right _ hk)
theorem AtD.put {w w1:World}{O:List Nat}{p:Nat}{d d':Dk}{v v':Value}{X X':List Fm}(h:AtD w O p d v X) (k:Kept [] w w1) (hR:rkO.row w1 v' X') (hf:∀ k,v'.ownBlock=some k→w.heap.size≤k) (hO:∀ x∈X',Own w x.v x.b) (hN:(blF X').Nodup) (hp:∀ k∈blF X',k≠p)
 (hL:X'.map Fm.fl=d'.L) (hs:d'.s=d.s) (hu:d'.f=d.f) (hd:d'.d=d.d):AtD (w1.setCell ⟨p,0,none⟩ v') (blD p v' X') p d' v' X'∧Kept [p] w (w1.setCell ⟨p,0,none⟩ v'):=by
 have hB:=h.h.kept k (by simp)
 have hpl:=h.h.lt
 have k2:Kept [p] w1 (w1.setCell ⟨p,0,none⟩ v'):=(Kept.refl _ _).setCell (by simp) _
 have hlt:∀ q∈blF X',q < w.heap.size:=fun q hq=>by
  obtain ⟨x,hx,hq⟩:=List.mem_flatMap.1 hq
  exact (World.ownsRow.lt (hO x hx) q (by simpa using hq)).2
 refine ⟨⟨?_,Rk.kept hR k2 (fun i hi hm=>?_),fun x hx=>k2.ownsRow (k.ownsRow (hO x hx) (by simp)) (fun i hi hm=>?_),hL,rfl,?_⟩,(k.mono (by simp)).trans k2 (by simp)⟩
 ·rw [hs,hu,hd];exact hB.set 0 v'
 ·simp at hm;subst hm
  have:=hf _ hi;omega
 ·simp at hm;subst hm
  exact hp _ (List.mem_flatMap.2 ⟨x,hx,by simp [hi]⟩) rfl
 ·unfold blD
  refine List.nodup_cons.2 ⟨fun hm=>?_,List.nodup_append.2 ⟨by cases v'.ownBlock <;> simp,hN,fun a ha b hb e=>?_⟩⟩
  ·rcases List.mem_append.1 hm with hm | hm
   ·have:=hf p (by simpa using hm);omega
   ·exact hp p hm rfl
  ·subst e
   have h1:=hf a (by simpa using ha)
   have h2:=hlt a hb
   omega
theorem sub_flat {α β:Type}(f:α→List β) {A B:List α}(h:A.Sublist B):(A.flatMap f).Sublist (B.flatMap f):=by
 induction h with
 | slnil=>exact List.Sublist.refl _
 | cons a _ ih=>rw [List.flatMap_cons];exact ih.trans (List.sublist_append_right _ _)
 | cons_cons a _ ih=>rw [List.flatMap_cons,List.flatMap_cons];exact (List.Sublist.refl _).append ih
theorem blF_out (X:List Fm) (i:Nat):(blF (X.take i++X.drop (i+1))).Sublist (blF X):=by
 have h1:(X.take i++X.drop (i+1)).Sublist X:=by
  have h2:(X.drop (i+1)).Sublist (X.drop i):=by rw [← List.drop_drop];exact List.drop_sublist _ _
  have h3:=(List.Sublist.refl (X.take i)).append h2
  rwa [List.take_append_drop] at h3
 exact sub_flat _ h1
theorem map_outF (X:List Fm) (i:Nat):(X.take i++X.drop (i+1)).map Fm.fl=outF (X.map Fm.fl) i:=by
 unfold outF
 rw [List.map_append,List.map_take,List.map_drop]
def OutP (p:Nat) (w:World) (d:Dk) (X:List Fm) (i:Nat) (w':World):Prop :=
 ∃ v',AtD w' (blD p v' (X.take i++X.drop (i+1))) p ⟨outF d.L i,d.s,d.f,d.d⟩ v' (X.take i++X.drop (i+1))∧Kept [p] w w'∧∀ k,v'.ownBlock=some k→w.heap.size≤k
set_option maxHeartbeats 4000000 in
set_option maxRecDepth 100000 in
theorem doutF_call {w:World}{O:List Nat}{p:Nat}{d:Dk}{v:Value}{X:List Fm}(h:AtD w O p d v X) (hl:X.length≤100000000) (i:Nat) (hi:i < X.length) :
 Calls Try.prog 56 #[.pointer (some ⟨p,0,none⟩),.int .i64 i] w fun e w'=>e=.returned (.tuple #[])∧OutP p w d X i w':=by
 obtain ⟨ao,c,hv,hc,hm,_,hat⟩:=Rk.shape h.r
 subst hv
 unfold maxLen at hm
 obtain ⟨g,he,_⟩:=hat i hi
 subst he
 have HH:=hide h
 have c0:=h.h.cell 0 rfl
 have k0:Kept [] w (w.alloc (.cells #[] 73)):=(Kept.refl _ _).alloc _
 have hO0:rkO.row (w.alloc (.cells #[] 73)) (.slice (some ⟨w.heap.size,0,none⟩) 0 0) []:=Rk.void w
 have HS1:Hid (rkO.src (w.alloc (.cells #[] 73)) (some ⟨g,0,none⟩) i c (X.take i)):=Rk.src_take (Rk.kept h.r k0 (by simp)) (by omega)
 have c0a:=k0.cell c0 (by simp)
 have hic:i≤c:=by omega
 have hii:(i:Int) < X.length:=by omega
 have HK0:=hide k0
 have HOW:Hid (∀ x∈X.take i++X.drop (i+1),Own w x.v x.b):=fun x hx=>h.o x (by
  rcases List.mem_append.1 hx with hx | hx
  ·exact List.mem_of_mem_take hx
  ·exact List.mem_of_mem_drop hx)
 have HND:Hid (blF (X.take i++X.drop (i+1))).Nodup:=(blF_out X i).nodup h.blk.1
 have HPN:Hid (∀ k∈blF (X.take i++X.drop (i+1)),k≠p):=fun k hk=>(h.blk.2 k ((blF_out X i).mem hk)).1
 have HML:Hid ((X.take i++X.drop (i+1)).map Fm.fl=outF d.L i):=by show _=_;rw [map_outF,h.L]
 have HEND:Hid (∀ w2 v2,Kept [] w w2→rkO.row w2 v2 (X.take i++X.drop (i+1))→(∀ k,v2.ownBlock=some k→w.heap.size≤k)→OutP p w d X i (w2.setCell ⟨p,0,none⟩ v2)):=fun w2 v2 hk hr hf=>by
  obtain ⟨h1,h2⟩:=HH.out.put (d':=⟨outF d.L i,d.s,d.f,d.d⟩) hk hr hf HOW.out HND.out HPN.out HML.out rfl rfl rfl
  exact ⟨v2,h1,h2,hf⟩
 clear h hat k0 HOW HND HPN HML
 go_enter Try.func56,Try.ntmps56
 go_wp2_with (at_builtin;refine Rk.appS rkO rfl _ _ rfl _ [] rfl hO0 (some ⟨g,0,none⟩) i c (X.take i) rfl HS1.out (by simp;omega) ?p1)
 case p1 =>
  intro v1 w1 hR1 hk1 hf1
  have hK1:Kept [] w w1:=HK0.out.trans hk1 (fun k hk=>.inr (by simp [Value.ownBlock] at hk;omega))
  have HR1:=hide hR1
  have HK1:=hide hK1
  have HF1:Hid (∀ k,v1.ownBlock=some k→w.heap.size≤k):=fun k hk=>by
   rcases hf1 k hk with h1 | h1
   ·simp [Value.ownBlock] at h1;omega
   ·omega
  have c0b:=hK1.cell c0 (by simp)
  have hrow:=Rk.kept HH.out.r hK1 (by simp)
  clear hR1 hk1 hf1 hK1 c0a c0 hO0 HS1
  by_cases hck:c≤i+1
  ·have hce:c=i+1:=by omega
   have HS2:Hid (rkO.src w1 (some ⟨g,0,none⟩) 0 0 []):=⟨rfl,by simp,fun ad _ j u hu=>by simp at hu⟩
   have HDn:Hid (X.take i++X.drop (i+1)=X.take i):=by show _=_;rw [List.drop_of_length_le (by omega),List.append_nil]
   subst hce
   clear hrow
   go_wp2_with (at_builtin;refine Rk.appS rkO rfl _ _ rfl v1 (X.take i) rfl HR1.out (some ⟨g,0,none⟩) 0 0 [] rfl HS2.out (by simp;omega) ?p2)
   case p2 =>
    intro v2 w2 hR2 hk2 hf2
    rw [← HDn.out] at hR2
    have hK2:Kept [] w w2:=HK1.out.trans hk2 (fun k hk=>.inr (HF1.out k (by simpa using hk)))
    have hF2:∀ k,v2.ownBlock=some k→w.heap.size≤k:=fun k hk=>by
     rcases hf2 k hk with h1 | h1
     ·exact HF1.out k h1
     ·have:=HK1.out.size;omega
    have HE:=hide (HEND.out w2 v2 hK2 hR2 hF2)
    have c0c:=hK2.cell (HH.out.h.cell 0 rfl) (by simp)
    have z0:=(HH.out.h.kept hK2 (by simp)).froz 0
    obtain ⟨ao2,c2,hv2,_⟩:=Rk.shape hR2
    subst hv2
    generalize (X.take i++X.drop (i+1)).length=n2 at HE ⊢
    clear hR2 hk2 hf2 hK2 hF2 c0b
    go_wp2_with fail
    go_returns
    exact ⟨rfl,HE.out⟩
  ·have HS2:Hid (rkO.src w1 (some ⟨g,(i+1)*3,none⟩) (X.length - (i+1)) (c - (i+1)) (X.drop (i+1))):=by
    have h1:=Rk.src_drop hrow (i:=i+1) (by omega)
    rw [Option.map_some,adr_addC,Nat.zero_add] at h1
    exact h1
   clear hrow
   go_wp2_with (at_builtin;refine Rk.appS rkO rfl _ _ rfl v1 (X.take i) rfl HR1.out (some ⟨g,(i+1)*3,none⟩) _ _ (X.drop (i+1)) rfl HS2.out (by simp;omega) ?p2)
   case p2 =>
    intro v2 w2 hR2 hk2 hf2
    have hK2:Kept [] w w2:=HK1.out.trans hk2 (fun k hk=>.inr (HF1.out k (by simpa using hk)))
    have hF2:∀ k,v2.ownBlock=some k→w.heap.size≤k:=fun k hk=>by
     rcases hf2 k hk with h1 | h1
     ·exact HF1.out k h1
     ·have:=HK1.out.size;omega
    have HE:=hide (HEND.out w2 v2 hK2 hR2 hF2)
    have c0c:=hK2.cell (HH.out.h.cell 0 rfl) (by simp)
    have z0:=(HH.out.h.kept hK2 (by simp)).froz 0
    obtain ⟨ao2,c2,hv2,_⟩:=Rk.shape hR2
    subst hv2
    generalize (X.take i++X.drop (i+1)).length=n2 at HE ⊢
    clear hR2 hk2 hf2 hK2 hF2 c0b
    go_wp2_with fail
    go_returns
    exact ⟨rfl,HE.out⟩
end Go.Proofs.Yteiagkjhmhllnaa
