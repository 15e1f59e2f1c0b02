/-
  Rows of bytes: what is owned, append, the document's Copy and Same.
-/
import Derived.Test.YteiagkjhmhllnaaBase
import Derived.Test.YteiagkjhmhllnaaPure
import Derived.Test.YteiagkjhmhllnaaApp
import Derived.Test.YteiagkjhmhllnaaProg
import Derived.Laws.AppendOwn
import Derived.Laws.AppendOwnNone
import Derived.Laws.OwnMore
import Derived.Deep.QuietTactic
import Derived.BigQuiet
import Derived.Handy
namespace Go.Proofs.Yteiagkjhmhllnaa
open Go.RowKit
theorem info_u8:(Try.prog.info? 5).map (fun i=>(i.zero,i.size,i.bytes))=some (some (.int .u8 0),1,1):=by kernel_rfl
def Fresh (w:World) (g g':Option Nat):Prop:=∀ k,g'=some k→g=some k∨w.heap.size≤k
theorem Fresh.refl (w:World) (g:Option Nat):Fresh w g g:=fun _ h=>.inl h
def Own (w:World) (v:Value) (l:List Int):Prop:=w.ownsRow 0 5 1 v l.length (l.map (Value.int .u8))
theorem own_trans {v v1 v2:Value}{N M:Nat}(h1:∀ k,v1.ownBlock=some k→v.ownBlock=some k∨N≤k) (h2:∀ k,v2.ownBlock=some k→v1.ownBlock=some k∨M≤k) (h:N≤M) :
 ∀ k,v2.ownBlock=some k→v.ownBlock=some k∨N≤k:=by
 intro k hk
 rcases h2 k hk with h3 | h3
 ·exact h1 k h3
 ·exact .inr (by omega)
theorem own_kept {v v1:Value}{w wr w1:World}{o:Obj}(h1:∀ k,v1.ownBlock=some k→v.ownBlock=some k∨w.heap.size≤k) (hk:Kept v.ownBlock.toList w wr) (hg:(wr.alloc o).grownBy w1 v1.ownBlock):Kept v.ownBlock.toList w w1 :=
 (hk.alloc o).grown hg (fun k e=>by
   rcases h1 k e with h | h
   ·exact .inl (by rw [h];simp)
   ·exact .inr h)
theorem take_snoc {l:List Int}{k:Nat}(h:k < l.length):l.take (k+1)=l.take k++[l.getD k 0]:=by
 rw [List.take_succ_eq_append_getElem h]
 simp [List.getD,List.getElem?_eq_getElem h]
theorem getD_oct {l:List Int}(ho:Oct l) {k:Nat}(h:k < l.length):0≤l.getD k 0∧l.getD k 0 < 256:=by
 have:l.getD k 0=l[k]:=by simp [List.getD,List.getElem?_eq_getElem h]
 rw [this];exact ho _ (List.getElem_mem h)
theorem own_app {w:World}{v:Value}{L M:List Int}{k:Nat}{N:List Value}(h:w.ownsRow 0 5 1 v (L.length+k) (L.map (Value.int .u8)++N)) (hk:k=M.length) (hN:N=M.map (Value.int .u8)):Own w v (L++M):=by
 subst hk;subst hN
 unfold Own
 rw [List.length_append,List.map_append]
 exact h
theorem quiet_eq {P:Program}{f:FuncId}{args:Array Value}{w:World}{n:Nat}{v:Value}
 (h:Calls P f args (w.drewN n) fun e w'=>e=.returned v∧w.drewN n=w'):Calls P f args (w.drewN n) fun e w''=>e=.returned v∧∃ m,w''=w.drewN m :=
 h.mono fun _ _ ⟨he,hm⟩=>⟨he,n,hm.symm⟩
theorem Sl.drewN {w:World}{ao:Option Addr}{n c:Nat}{l:List Int}(h:Sl w ao n c l) (q:Nat):Sl (w.drewN q) ao n c l:=h
theorem sl_news {w:World}{a:Addr}{n c:Nat}{l:List Int}(h:Sl w (some a) n c l):∀ j u,(l.map (Value.int .u8))[j]?=some u→w.cell? (a.add j)=some u:=by
 intro j u hj
 have h5:=(List.getElem?_eq_some_iff.1 hj).1
 have h6:=h.1
 simp at h5
 obtain ⟨b,o,e,hc⟩:=h.2.2.2.2 j (by omega)
 cases e
 have ea:(⟨b,o,none⟩:Addr).add j=⟨b,o+j,none⟩:=by by_cases hk0:j=0 <;> simp [Addr.add,hk0]
 rw [ea,hc]
 have e:(l.map (Value.int .u8))[j]?=some (Value.int .u8 (l.getD j 0)):=by simp [List.getD,List.getElem?_eq_getElem h5]
 rw [e] at hj
 exact hj
theorem oneCells (l:List Int):∀ u∈l.map (Value.int .u8),u.oneCell'=true:=by
 intro u hu;obtain ⟨x,_,rfl⟩:=List.mem_map.1 hu;rfl
theorem own_sl {w:World}{v:Value}{l:List Int}(h:Own w v l):∃ ao n c,v=.slice ao n c∧Sl w ao n c l∧(∀ k∈blk ao,k < w.heap.size∧v.ownBlock=some k):=by
 obtain ⟨ao,n,c,h1,h2,h3⟩:=Sl.of_owns' h
 exact ⟨ao,n,c,h1,h2,fun k hk=>⟨(h3 k hk).2.1,(h3 k hk).2.2⟩⟩
theorem wp_app {w:World}{ops:Array Oper}{rest:List Oper}{o:Oper}{a:Act}{Q:Exit→Act→World→Prop}(hgd:o.guard=none) (s x:Operand)
 (hop:o.op=.call { callee:=.builtin .append,args:=#[s,x],argTypes:=#[28,28] })
 (v:Value) (l:List Int) (hs:a.eval s=v) (hO:Own w v l) (ao:Option Addr) (m c:Nat) (L:List Int) (hx:a.eval x=.slice ao m c) (hS:Sl w ao m c L)
 (hlen:l.length+m≤140737488355328)
 (h:∀ v' w',Own w' v' (l++L)→Fresh w v.ownBlock v'.ownBlock→Kept v.ownBlock.toList w w'→wpList Try.prog ops Q rest (a.put o.dst v') w'):wpList Try.prog ops Q (o :: rest) a w:=by
 obtain ⟨i0,hi,hz0,hz1,hz2⟩:=info_parts info_u8
 have hm:=hS.1
 subst hm
 cases ao with
 | none =>
   have h1:=hS.2.2.2.1 rfl
   have h2:=hS.2.1
   have h3:L=[]:=by have h4:L.length=0:=by omega
                    simpa using h4
   subst h3
   subst h1
   refine wpList_append_own_none hgd s x 28 hop 0 5 i0 1 Try.underlying28 hi v _ _ hs hO hx ?_
   exact h v w (by simpa using hO) (Fresh.refl _ _) (Kept.refl _ _)
 | some ad =>
   refine wpList_append2 w hgd s x 28 hop 5 i0 (.int .u8 0) 1 1 Try.underlying28 hi hz0 hz1 hz2 rfl (by decide) v l.length (l.map (Value.int .u8)) hs hO ad L.length c (L.map (Value.int .u8)) hx (by simp) (sl_news hS) (oneCells L) (by unfold maxLen;omega) (by omega) ?_
   intro v1 w1 hown hgrow hfr
   exact h v1 w1 (own_app hown rfl rfl) hfr ((Kept.refl _ _).grown hgrow (by intro k hk;left;rw [hk];simp))
theorem op_appB {w:World}{o:Oper}{a:Act}{K:Act→World→Prop}{Q:Exit→Act→World→Prop}(s x:Operand)
 (hop:o.op=.call { callee:=.builtin .append,args:=#[s,x],argTypes:=#[28,28] })
 (v:Value) (l:List Int) (hs:a.eval s=v) (hO:Own w v l) (ao:Option Addr) (m c:Nat) (L:List Int) (hx:a.eval x=.slice ao m c) (hS:Sl w ao m c L)
 (hlen:l.length+m≤140737488355328)
 (h:∀ v' w',Own w' v' (l++L)→Fresh w v.ownBlock v'.ownBlock→Kept v.ownBlock.toList w w'→K (a.put o.dst v') w'):Oper.wp Try.prog o a w K Q:=by
 obtain ⟨i0,hi,hz0,hz1,hz2⟩:=info_parts info_u8
 have hm:=hS.1
 subst hm
 cases ao with
 | none =>
   have h1:=hS.2.2.2.1 rfl
   have h2:=hS.2.1
   have h3:L=[]:=by have h4:L.length=0:=by omega
                    simpa using h4
   subst h3
   subst h1
   have hrun:=run_append_owned_none (P:=Try.prog) (w:=w) 0 28 o.type 5 i0 1 Try.underlying28 hi v _ _ hO
   have hx2:a.eval x=.slice none 0 0:=hx
   have h5:=h v w (by simpa using hO) (Fresh.refl _ _) (Kept.refl _ _)
   unfold Oper.wp
   simp [execOp,hop,resolve,invoke,builtin,hs,hx2,hrun,Result.andThen]
   exact h5
 | some ad =>
   obtain ⟨v',w',hr,h2,h3,_⟩:=run_append_own (P:=Try.prog) w 0 28 o.type 5 i0 (.int .u8 0) 1 1 Try.underlying28 hi hz0 hz1 hz2 rfl (by decide) v l.length (l.map (Value.int .u8)) hO ad L.length c (L.map (Value.int .u8)) (by simp) (sl_news hS) (oneCells L) (by unfold maxLen;omega) (by omega) (Nat.zero_le _)
   have h5:=append_fresh (P:=Try.prog) w 0 28 o.type 5 i0 (.int .u8 0) 1 1 Try.underlying28 hi hz0 hz1 hz2 rfl (by decide) v l.length (l.map (Value.int .u8)) hO ad L.length c (L.map (Value.int .u8)) (by simp) (sl_news hS) (oneCells L) (by unfold maxLen;omega) (by omega) v' w' hr
   have h6:=h v' w' (own_app h2 rfl rfl) h5 ((Kept.refl _ _).grown h3 (by intro k hk;left;rw [hk];simp))
   unfold Oper.wp execOp
   simp only [hop,resolve,invoke,builtin,Sem.run_bind,Sem.run_pure,Result.andThen_ok,List.map_toArray,List.map_cons,List.map_nil,hs,hx,hr]
   exact h6
theorem ownNil (n:Nat):∀ k,(Value.slice none 0 0).ownBlock=some k→n≤k:=by
 intro k hk;cases hk
set_option maxHeartbeats 1000000 in
theorem copy_call (w:World) (ao:Option Addr) (n c:Nat) (l:List Int) (hs:Sl w ao n c l) (hbig:n≤100000000000) :
 Calls Try.prog 34 #[.slice ao n c] w fun r w'=>∃ v,r=.returned v∧Own w' v l∧(∀ k,v.ownBlock=some k→w.heap.size≤k)∧Kept [] w w':=by
 obtain ⟨i0,hi,hz0,hz1,hz2⟩:=info_parts info_u8
 have hn:=hs.1
 subst hn
 have hm:=hs.2.2.1
 have hc:=hs.2.1
 unfold maxLen at hm
 by_cases h0:l.length=0
 ·have e1:l=[]:=by simpa using h0
  subst e1
  clear hs
  go_enter Try.func34,Try.ntmps34
  go_wp2
  refine wp_loop_rounds 1 ?_
  rw [rounds_succ]
  go_wp2
  go_ret
  exact ⟨_,rfl,World.ownsRow_nil _ _ _ _,ownNil _,Kept.refl _ _⟩
 ·obtain ⟨b,o,rfl,hcell⟩:=hs.some (by omega)
  have HC:Hid (∀ i,i < l.length→w.cell? ⟨b,o+i,none⟩=some (.int .u8 (l.getD i 0))):=hcell
  clear hs hcell
  go_enter Try.func34,Try.ntmps34
  go_wp2
  go_loopw [3,4] (fun v i wr=>∃ (k:Nat),k≤l.length∧i=.int .i64 k∧Own wr v (l.take k)∧(∀ k,v.ownBlock=some k→w.heap.size≤k)∧Kept [] w wr) (fun _ i _=>l.length - (intOf i).toNat)
  case atStart=>exact ⟨0,Nat.zero_le _,rfl,World.ownsRow_nil _ _ _ _,ownNil _,Kept.refl _ _⟩
  case round =>
   obtain ⟨k,hk,rfl,hO,hfr,hkept⟩:=hrel
   have hlen:(l.take k).length=k:=by simp;omega
   obtain ⟨L,hL⟩:∃ L,L=l.take k:=⟨_,rfl⟩
   rw [← hL] at hO hlen
   have HO1:Hid (Own wr u3 L):=hO
   have HL:Hid (L=l.take k):=hL
   have hlen2:L.length≤100000000000:=by omega
   have HFR:Hid (∀ k,u3.ownBlock=some k→w.heap.size≤k):=hfr
   clear hO hL hlen hfr
   by_cases hlt:k < l.length
   ·have g1:wr.cell? ⟨b,o+k,none⟩=some (.int .u8 (l.getD k 0)):=hkept.cell (HC.out k hlt) (by simp)
    generalize hd:l.getD k 0=d at g1
    have HD:Hid (l.getD k 0=d):=hd
    clear hd
    go_wp2_with (at_builtin;refine wpList_append2 _ rfl _ _ 28 rfl 5 i0 (.int .u8 0) 1 1 Try.underlying28 hi hz0 hz1 hz2 rfl (by decide) _ L.length (L.map (Value.int .u8)) rfl (World.ownsRow.alloc HO1.out _) ⟨wr.heap.size,0,none⟩ 1 1 [.int .u8 d] rfl rfl ?c1 ?c2 ?c3 ?c4 ?_)
    case c1 =>
     intro j u hj
     match j,hj with
     | 0,hj=>simp at hj;subst hj;simp [Addr.add]
    case c2=>intro u hu;simp at hu;subst hu;rfl
    case c3=>unfold maxLen;omega
    case c4=>omega
    intro v' w1 hown hgrow hfr'
    have hO2:Own w1 v' (L++[d]):=own_app hown rfl rfl
    clear hown
    go_wp2
    go_roundw
    case rel =>
     refine ⟨k+1,by omega,by go_num,?_,?_,?_⟩
     ·rw [take_snoc hlt,HD.out,← HL.out];exact hO2
     ·intro j hj
      rcases hfr' j hj with h1 | h1
      ·exact HFR.out j h1
      ·have:=hkept.size;omega
     ·exact (hkept.alloc _).grown hgrow (fun j hj=>.inr (HFR.out j hj))
    case measure=>simp [intOf];omega
   ·have e:l.take k=l:=List.take_of_length_le (by omega)
    have HO2:Hid (Own wr u3 l):=by have:=HO1.out;rw [HL.out,e] at this;exact this
    clear e
    go_wp2
    go_ret
    exact ⟨_,rfl,HO2.out,HFR.out,hkept⟩
theorem take_succ_eq {l m:List Int}{k:Nat}(h1:k < l.length) (h2:k < m.length) (h:l.take k=m.take k) (e:l.getD k 0=m.getD k 0):l.take (k+1)=m.take (k+1):=by
 rw [List.take_succ_eq_append_getElem h1,List.take_succ_eq_append_getElem h2,h]
 simp [List.getD,List.getElem?_eq_getElem h1,List.getElem?_eq_getElem h2] at e
 rw [e]
set_option maxHeartbeats 1000000 in
theorem bsame_call (w:World) (ao bo:Option Addr) (n c m d:Nat) (l l':List Int) (hs:Sl w ao n c l) (hs':Sl w bo m d l') :
 Calls Try.prog 33 #[.slice ao n c,.slice bo m d] w fun r w'=>r=.returned (.bool (decide (l=l')))∧Kept [] w w':=by
 have hn:=hs.1
 have hm:=hs'.1
 subst hn
 subst hm
 by_cases hne:l.length=l'.length
 ·by_cases h0:l.length=0
  ·have e1:l=[]:=by simpa using h0
   have e2:l'=[]:=by rw [h0] at hne;simpa using hne.symm
   subst e1;subst e2
   clear hs hs' hne h0
   go_enter Try.func33,Try.ntmps33
   go_wp2
   refine wp_loop_rounds 1 ?_
   rw [rounds_succ]
   go_wp2
   go_ret
   exact ⟨rfl,Kept.refl _ _⟩
  ·obtain ⟨b1,o1,rfl,hc1⟩:=hs.some (by omega)
   obtain ⟨b2,o2,rfl,hc2⟩:=hs'.some (by omega)
   have hcm:=hs.2.1
   have hmm:=hs.2.2.1
   have hdm:=hs'.2.1
   have hdd:=hs'.2.2.1
   unfold maxLen at hmm hdd
   have HC1:Hid (∀ i,i < l.length→w.cell? ⟨b1,o1+i,none⟩=some (.int .u8 (l.getD i 0))):=hc1
   have HC2:Hid (∀ i,i < l'.length→w.cell? ⟨b2,o2+i,none⟩=some (.int .u8 (l'.getD i 0))):=hc2
   have HN:Hid (l.length=l'.length):=hne
   have hnb:((l.length:Int) != (l'.length:Int))=false:=by simp [hne]
   clear hc1 hc2 hs hs' hne
   go_enter Try.func33,Try.ntmps33
   go_wp2
   go_loopw [5] (fun i wr=>∃ k:Nat,k≤l.length∧i=.int .i64 k∧l.take k=l'.take k∧∃ q,wr=w.drewN q) (fun i _=>l.length - (intOf i).toNat)
   case atStart=>exact ⟨0,Nat.zero_le _,rfl,rfl,0,rfl⟩
   case round =>
    obtain ⟨k,hk,rfl,htk,q,rfl⟩:=hrel
    have HT:Hid (l.take k=l'.take k):=htk
    clear htk
    by_cases hlt:k < l.length
    ·have g1:w.cell? ⟨b1,o1+k,none⟩=some (.int .u8 (l.getD k 0)):=HC1.out k hlt
     have g2:w.cell? ⟨b2,o2+k,none⟩=some (.int .u8 (l'.getD k 0)):=HC2.out k (by have:=HN.out;omega)
     have hlt2:k < l'.length:=by have:=HN.out;omega
     generalize hx:l.getD k 0=x at g1
     generalize hy:l'.getD k 0=y at g2
     have HX:Hid (l.getD k 0=x):=hx
     have HY:Hid (l'.getD k 0=y):=hy
     clear hx hy
     by_cases hxy:x=y
     ·have hb:(x != y)=false:=by simp [hxy]
      have HXY:Hid (x=y):=hxy
      clear hxy
      go_wp2
      go_quiet (fail)
      go_wp2
      refine ⟨⟨k+1,by omega,by go_num,take_succ_eq hlt hlt2 HT.out (by rw [HX.out,HY.out,HXY.out]),_,rfl⟩,?_⟩
      simp [intOf];omega
     ·have hb:(x != y)=true:=by simp [hxy]
      have HXY:Hid (¬ x=y):=hxy
      clear hxy
      go_wp2
      go_quiet (fail)
      go_wp2
      go_ret
      have hn:¬ l=l':=fun e=>HXY.out (by rw [← HX.out,← HY.out,e])
      exact ⟨by simp [hn],((Kept.refl _ _).drewN _).drewN _⟩
    ·have hk2:k=l.length:=by omega
     have hn:l=l':=by
      have h1:=HT.out
      rw [hk2,List.take_length] at h1
      rw [h1,List.take_of_length_le (by have:=HN.out;omega)]
     have HN2:Hid (l=l'):=hn
     clear hk2 hn
     go_wp2
     go_ret
     exact ⟨by simp [HN2.out],(Kept.refl _ _).drewN _⟩
 ·have hnb:((l.length:Int) != (l'.length:Int))=true:=by simp;omega
  have HN:Hid (¬ l.length=l'.length):=hne
  clear hne hs hs'
  go_enter Try.func33,Try.ntmps33
  go_wp2
  go_ret
  have hn:¬ l=l':=fun e=>HN.out (by rw [e])
  exact ⟨by simp [hn],Kept.refl _ _⟩
end Go.Proofs.Yteiagkjhmhllnaa
