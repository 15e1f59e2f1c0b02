/-
  The document's own epochs in memory.
-/
import Derived.Test.YtgpnlidnbldiiaaGreatQ17r
import Derived.Test.YtgpnlidnbldiiaaGreatQ15r
namespace Go.Proofs.YtgpnlidnbldiiaaGreat
open Go.RowKit
def EdA (B:Nat) (w:World) (p:Nat) (al:Int) (L:List Ep):Prop :=
 ∃ v X,B≤p∧w.heap[p]?=some (.cells #[.int .i64 al,v] 94 (0,0))∧RowA B w v X∧OwnA B w X∧X.map Prod.fst=L
theorem EdA.kept {B:Nat}{w w':World}{p:Nat}{al:Int}{L:List Ep}(h:EdA B w p al L) (k:Kept [] w w'):EdA B w' p al L:=by
 obtain ⟨v,X,h1,h2,h3,h4,h5⟩:=h
 exact ⟨v,X,h1,k.at h2 (by simp),k.ownsRow h3 (by simp),fun x hx=>k.ownsRow (h4 x hx) (by simp),h5⟩
theorem fst_at {X:List (Ep × Value)}{L:List Ep}(h:X.map Prod.fst=L) {i:Nat}(hi:i < X.length) (hl:i < L.length):X[i].1=L[i]:=by simp [← h]
theorem EdA.open {B:Nat}{w:World}{p:Nat}{al:Int}{L:List Ep}(h:EdA B w p al L) (hn:L≠[]) :
 ∃ g cap X,w.heap[p]?=some (.cells #[.int .i64 al,.slice (some ⟨g,0,none⟩) L.length cap] 94 (0,0))∧SlE w (some ⟨g,0,none⟩) L.length cap X∧X.map Prod.fst=L∧B≤p∧RowA B w (.slice (some ⟨g,0,none⟩) L.length cap) X∧OwnA B w X:=by
 obtain ⟨v,X,h1,h2,h3,h4,h5⟩:=h
 obtain ⟨ao,c,rfl,hS⟩:=h3.sl h4
 have hl:X.length=L.length:=by rw [← h5,List.length_map]
 rw [hl] at h2 h3 hS
 have hpos:=List.length_pos_iff.2 hn
 obtain ⟨b,o,rfl,_⟩:=hS.2.2.2.1 0 (by omega)
 have ho:o=0:=by
  rcases h3.2 with ⟨e,_⟩ | ⟨g,cap,cur,e,_⟩
  ·cases e
  ·simp only [Value.slice.injEq,Option.some.injEq,Addr.mk.injEq] at e;exact e.1.2.1
 subst ho
 exact ⟨b,c,X,h2,hS,h5,h1,h3,h4⟩
theorem step_appI {ops:Array Oper}{a:Act}{w:World}{K:Act→World→Prop}{Q:Exit→Act→World→Prop}{E:Prop}{d:Option Tmp}{s x:Operand}{ty:TypeId}{ps:String}{af:Array Edge}
 (B:Nat) (v:Value) (S T:List Int) (tao:Option Addr) (tn tc:Nat) (hs:a.eval s=v) (hO:RowI B w v S) (hx:a.eval x=.slice tao tn tc) (hT:SlI w tao tn tc T) (hne:T≠[]) (hlen:S.length+T.length≤1000000) (hB:B≤w.heap.size)
 (h:∀ g' n cap w',Hid (RowI B w' (.slice (some ⟨g',0,none⟩) n cap) (S++T))→Hid (w.grownBy w' v.ownBlock)→K (a.put d (.slice (some ⟨g',0,none⟩) n cap)) w') :
 if Region.wanted (⟨d,.call { callee:=.builtin .append,args:=#[s,x],argTypes:=#[22,22] },ty,ps,af,none⟩:Oper) (yielded ops a.tmps)=true then Oper.wp Tryz.prog ⟨d,.call { callee:=.builtin .append,args:=#[s,x],argTypes:=#[22,22] },ty,ps,af,none⟩ a w K Q else E:=by
 obtain ⟨i0,hi,hz0,hz1,hz2⟩:=info_parts info_int
 have hpos:=List.length_pos_iff.2 hne
 obtain ⟨b,o,rfl,_⟩:=hT.2.2.2 0 hpos
 have hl:=hT.1
 subst hl
 refine step_append_lies w rfl s x 22 rfl B 3 i0 _ 1 8 Tryz.underlying22 hi hz0 hz1 hz2 rfl (by decide) v S.length (S.map (Value.int .i64)) hs hO ⟨b,o,none⟩ T.length tc (T.map (Value.int .i64)) hx (by simp) ?_ ?_ hpos (by unfold maxLen;omega) (by omega) hB _ rfl ?_
 ·intro j u hj
  have hlt:j < T.length:=by have:=(List.getElem?_eq_some_iff.1 hj).1;simpa using this
  obtain ⟨b',o',e',hc⟩:=hT.2.2.2 j hlt
  cases e'
  rw [adr_addC,hc]
  simp [hlt] at hj
  rw [hj]
 ·intro u hu
  obtain ⟨z,_,rfl⟩:=List.mem_map.1 hu
  rfl
 ·intro g' cap w' h2 h3 _ _
  refine h g' _ cap w' ?_ h3
  show RowI _ _ _ _
  unfold RowI
  rw [List.length_append,List.map_append]
  exact h2
theorem own_voidI (w:World) (B:Nat) (hB:B≤w.heap.size):RowI B (w.alloc (.cells #[] 3)) (.slice (some ⟨w.heap.size,0,none⟩) 0 0) [] :=
 ⟨rfl,.inr ⟨w.heap.size,0,#[],rfl,hB,heap_alloc_new w _,Nat.le_refl _,Nat.zero_le _,rfl,rfl⟩⟩
theorem EdA.grown {B:Nat}{w w0 w':World}{p:Nat}{al:Int}{v u:Value}{X Y:List (Ep × Value)}(hp:B≤p) (hv:w0.heap[p]?=some (.cells #[.int .i64 al,v] 94 (0,0))) (hr:RowA B w0 v X) (hk:Kept [] w0 w) (hR:RowA B w' u Y) (hO:OwnA B w Y) (hg:w.grownBy w' v.ownBlock) :
 EdA B (w'.setCell ⟨p,1,none⟩ u) p al (Y.map Prod.fst)∧Tn B [94,134] w0 (w'.setCell ⟨p,1,none⟩ u):=by
 have hkr:Kept v.ownBlock.toList w w':=(Kept.refl _ _).grown hg fun k hk=>.inl (by simp [hk])
 have hk1:Kept v.ownBlock.toList w0 w':=(hk.mono (by simp)).trans hkr (fun i hi=>.inl hi)
 have hty:∀ k∈v.ownBlock.toList,B≤k∧∃ cur,w0.heap[k]?=some (.cells cur 134 (0,0)):=fun k hk=>by
  have hk':=mem_own.1 hk
  exact ⟨(World.ownsRow.lt hr k hk').1,row_block hr hk'⟩
 have hpn:p ∉ v.ownBlock.toList:=fun hm=>by
  obtain ⟨_,cur,hh⟩:=hty p hm
  rw [hv] at hh
  cases hh
 have h1:w'.heap[p]?=some (.cells #[.int .i64 al,v] 94 (0,0)):=hk1.at hv hpn
 have htw:Typed w v.ownBlock.toList [134]:=fun k hk' cur t mk hh=>by
  obtain ⟨_,cur',hh'⟩:=hty k hk'
  rw [hk.at hh' (by simp)] at hh;cases hh;simp
 refine ⟨⟨u,Y,hp,?_,?_,?_,rfl⟩,⟨p :: v.ownBlock.toList,?_,?_,?_,?_⟩⟩
 ·have:=heap_setCell_same w' p 1 _ _ u h1
  simpa using this
 ·exact ((Kept.refl [p] w').setCell (by simp) _).ownsRow hR fun k hk hm=>by
   simp at hm
   subst hm
   obtain ⟨cur,hh⟩:=row_block hR hk
   rw [h1] at hh
   cases hh
 ·intro x hx
  have h2:RowI B w' x.2 x.1.m:=row_typed hkr htw (hO x hx) (by decide)
  exact ((Kept.refl [p] w').setCell (by simp) _).ownsRow h2 fun k hk hm=>by
   simp at hm
   subst hm
   obtain ⟨cur,hh⟩:=row_block h2 hk
   rw [h1] at hh
   cases hh
 ·exact (hk1.mono (fun i hi=>.inl (by simp [hi]))).setCell (by simp) _
 ·intro k hk
  rcases List.mem_cons.1 hk with rfl | hk
  ·exact hp
  ·exact (hty k hk).1
 ·intro k hk cur t mk hh
  rcases List.mem_cons.1 hk with rfl | hk
  ·rw [hv] at hh;cases hh;simp
  ·obtain ⟨_,cur',hh'⟩:=hty k hk
   rw [hh'] at hh;cases hh;simp
 ·intro k hk _
  rcases List.mem_cons.1 hk with rfl | hk
  ·exact ⟨_,_,_,hv⟩
  ·obtain ⟨_,cur',hh'⟩:=hty k hk
   exact ⟨_,_,_,hh'⟩
end Go.Proofs.YtgpnlidnbldiiaaGreat
