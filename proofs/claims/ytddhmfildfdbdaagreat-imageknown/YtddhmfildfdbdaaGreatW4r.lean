/-
  Texts of this claim that are laid as one: Args, RefC, EnSm0.
-/
import Derived.Test.YtddhmfildfdbdaaGreatQ2r
import Derived.Test.YtddhmfildfdbdaaGreatF3r
import Derived.Test.YtddhmfildfdbdaaGreatF1r
import Derived.ProofKit
import Derived.OpenShut
import Derived.ShutString
import Derived.ChangeOld
import Derived.SizedLaws
import Derived.Test.YtddhmfildfdbdaaGreatQ8r
import Derived.Test.YtddhmfildfdbdaaGreatQ3r
/-
 What is read of the arguments.
-/
namespace Go.Proofs.YtddhmfildfdbdaaGreat
open Go.ChangeShapes Go.WideShapes Go.ChangeAt Go.RowKit
theorem octet {x:Int}(h:(Lit.int .u8 x).wf=true):0≤x∧x < 256:=by
 simp [Lit.wf,IntKind.min,IntKind.max,IntKind.bits,IntKind.signed] at h
 omega
theorem addr_add (b o i:Nat):(⟨b,o,none⟩:Addr).add i=⟨b,o+i,none⟩:=by
 by_cases h:i=0 <;> simp [Addr.add,h]
theorem open_bytes {H:Type}{enc:TypeId × Value→H}{W:World}{base:Nat}{sp:Nat→Bool}{held:Bool}{fuel:Nat}{a:Option Addr}{len cap:Nat}{x:DataW H × List MemPlace}
 (h:DataW.trod enc Tryz.prog W base sp held fuel 23 [.slice a len cap]=some x):∃ l,Sl W a len cap l∧Oct l∧(x.1=.nil∨∃ spare,x.1=.slice (lits .u8 l) spare):=by
 rcases open_ints Tryz.underlying23 Tryz.underlying5 (by kernel_rfl) h with ⟨hcs,hx⟩ | ⟨ad,l,c,zs,hcs,_,hl,hm,hz,hx,hcell,hwz⟩
 ·simp at hcs
  obtain ⟨rfl,rfl,rfl⟩:=hcs
  exact ⟨[],Sl.nil _,by intro x hx;simp at hx,.inl (by rw [hx])⟩
 ·simp at hcs
  obtain ⟨rfl,rfl,rfl⟩:=hcs
  have hlen:len≤zs.length:=by rw [hz];split <;> omega
  refine ⟨zs.take len,⟨by simp;omega,hl,hm,by simp,fun i hi=>?_⟩,fun y hy=>octet (hwz y (List.mem_of_mem_take hy)),.inr ⟨_,by rw [hx]⟩⟩
  have hc:=hcell i (by omega)
  obtain ⟨b,o,spot⟩:=ad
  have hspot:spot=none:=by
   have:=World.cell?_spot hc
   by_cases h0:i=0
   ·subst h0;simpa [Addr.add] using this
   ·have h1:=hcell 0 (by omega)
    have:=World.cell?_spot h1
    simpa [Addr.add] using this
  subst hspot
  refine ⟨b,o,rfl,?_⟩
  rw [← addr_add,hc]
  simp [List.getD,hi]
end Go.Proofs.YtddhmfildfdbdaaGreat
namespace Go.Proofs.YtddhmfildfdbdaaGreat
open Go.RowKit
theorem ownNil (n:Nat):∀ k,(Value.slice none 0 0).ownBlock=some k→n≤k:=by
 intro k hk;cases hk
set_option maxHeartbeats 1000000 in
theorem copy_call (w:World) (ao:Option Addr) (n c:Nat) (l:List Int) (hs:Sl w ao n c l) (hbig:n≤100000000000) :
 Calls Tryz.prog 7 #[.slice ao n c] w fun r w'=>∃ v,r=.returned v∧Own w' v l∧(∀ k,v.ownBlock=some k→w.heap.size≤k)∧Kept [] w w':=by
 obtain ⟨i0,hi,hz0,hz1,hz2⟩:=info_parts info_u8
 have hn:=hs.1
 subst hn
 have hm:=hs.2.2.1
 have hc:=hs.2.1
 unfold maxLen at hm
 by_cases h0:l.length=0
 ·have e1:l=[]:=by simpa using h0
  subst e1
  clear hs
  go_enter Tryz.func7,Tryz.ntmps7
  go_wp2
  refine wp_loop_rounds 1 ?_
  rw [rounds_succ]
  go_wp2
  go_ret
  exact ⟨_,rfl,World.ownsRow_nil _ _ _ _,ownNil _,Kept.refl _ _⟩
 ·obtain ⟨b,o,rfl,hcell⟩:=hs.some (by omega)
  have HC:Hid (∀ i,i < l.length→w.cell? ⟨b,o+i,none⟩=some (.int .u8 (l.getD i 0))):=hcell
  clear hs hcell
  go_enter Tryz.func7,Tryz.ntmps7
  go_wp2
  go_loopw [3,4] (fun v i wr=>∃ (k:Nat),k≤l.length∧i=.int .i64 k∧Own wr v (l.take k)∧(∀ k,v.ownBlock=some k→w.heap.size≤k)∧Kept [] w wr) (fun _ i _=>l.length - (intOf i).toNat)
  case atStart=>exact ⟨0,Nat.zero_le _,rfl,World.ownsRow_nil _ _ _ _,ownNil _,Kept.refl _ _⟩
  case round =>
   obtain ⟨k,hk,rfl,hO,hfr,hkept⟩:=hrel
   have hlen:(l.take k).length=k:=by simp;omega
   obtain ⟨L,hL⟩:∃ L,L=l.take k:=⟨_,rfl⟩
   rw [← hL] at hO hlen
   have HO1:Hid (Own wr u3 L):=hO
   have HL:Hid (L=l.take k):=hL
   have hlen2:L.length≤100000000000:=by omega
   have HFR:Hid (∀ k,u3.ownBlock=some k→w.heap.size≤k):=hfr
   clear hO hL hlen hfr
   by_cases hlt:k < l.length
   ·have g1:wr.cell? ⟨b,o+k,none⟩=some (.int .u8 (l.getD k 0)):=hkept.cell (HC.out k hlt) (by simp)
    generalize hd:l.getD k 0=d at g1
    have HD:Hid (l.getD k 0=d):=hd
    clear hd
    go_wp2_with (at_builtin;refine wpList_append2 _ rfl _ _ 23 rfl 5 i0 (.int .u8 0) 1 1 Tryz.underlying23 hi hz0 hz1 hz2 rfl (by decide) _ L.length (L.map (Value.int .u8)) rfl (World.ownsRow.alloc HO1.out _) ⟨wr.heap.size,0,none⟩ 1 1 [.int .u8 d] rfl rfl ?c1 ?c2 ?c3 ?c4 ?_)
    case c1 =>
     intro j u hj
     match j,hj with
     | 0,hj=>simp at hj;subst hj;simp [Addr.add]
    case c2=>intro u hu;simp at hu;subst hu;rfl
    case c3=>unfold maxLen;omega
    case c4=>omega
    intro v' w1 hown hgrow hfr'
    have hO2:Own w1 v' (L++[d]):=own_app hown rfl rfl
    clear hown
    go_wp2
    go_roundw
    case rel =>
     refine ⟨k+1,by omega,by go_num,?_,?_,?_⟩
     ·rw [take_snoc hlt,HD.out,← HL.out];exact hO2
     ·intro j hj
      rcases hfr' j hj with h1 | h1
      ·exact HFR.out j h1
      ·have:=hkept.size;omega
     ·exact (hkept.alloc _).grown hgrow (fun j hj=>.inr (HFR.out j hj))
    case measure=>simp [intOf];omega
   ·have e:l.take k=l:=List.take_of_length_le (by omega)
    have HO2:Hid (Own wr u3 l):=by have:=HO1.out;rw [HL.out,e] at this;exact this
    clear e
    go_wp2
    go_ret
    exact ⟨_,rfl,HO2.out,HFR.out,hkept⟩
theorem equal_kept (w:World) (ao bo:Option Addr) (n m c d:Nat) (L M:List Ch) (hL:SlC w ao n c L) (hM:SlC w bo m d M) :
 Calls Tryz.prog 160 #[.slice ao n c,.slice bo m d] w fun e w'=>e=.returned (.bool (decide (L=M)))∧Kept [] w w':=by
 refine (equal_call w ao bo n m c d L M hL hM).mono ?_
 rintro _ _ ⟨rfl,q,rfl⟩
 exact ⟨rfl,drewN_kept w q⟩
end Go.Proofs.YtddhmfildfdbdaaGreat
