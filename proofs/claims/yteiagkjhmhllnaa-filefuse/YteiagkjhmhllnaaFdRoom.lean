/-
  Layer 12's room.
-/
import Derived.Test.YteiagkjhmhllnaaFdArgs
namespace Go.Proofs.Yteiagkjhmhllnaa
open Go.RowKit
def okDm (y:Dm):Prop:=y.b.length≤500∧y.K.length≤100∧y.nm.length≤200∧y.t.length≤200
def RmP (D:List Dm) (r:Ending):Prop:=∃ bb,r=.returned (.bool bb)∧(bb=true→D.length≤200∧∀ y∈D,okDm y)
theorem rmP_no (D:List Dm):RmP D (.returned (.bool false)):=⟨false,rfl,fun h=>by cases h⟩
set_option linter.unusedSimpArgs false in
set_option maxHeartbeats 8000000 in
set_option maxRecDepth 100000 in
theorem room12_call (w:World) (ao:Option Addr) (n c:Nat) (D:List Dm) (hS:SlDm w ao n c D) :
 Calls Try.prog 16 #[.slice ao n c] w fun r w'=>RmP D r∧w'=w:=by
 have hl:=hS.l
 subst hl
 have hc:=hS.le
 have hm:=hS.mx
 unfold maxLen at hm
 have HS:=hide hS
 clear hS
 by_cases h1:200 < D.length
 ·have h1':(200:Int) < D.length:=by omega
  go_enter Try.func16,Try.ntmps16
  go_wp2_with fail
  go_ret
  exact ⟨rmP_no D,rfl⟩
 ·have h1':¬ (200:Int) < D.length:=by omega
  go_enter Try.func16,Try.ntmps16
  go_wp2_with fail
  go_loop [3] (fun iv=>∃ i:Nat,iv=.int .i64 (i:Int)∧i≤D.length∧Hid (∀ j (h:j < D.length),j < i→okDm D[j])) (fun iv=>D.length - (intOf iv).toNat)
  case atStart=>exact ⟨0,rfl,Nat.zero_le _,fun j h h2=>by omega⟩
  case round =>
   obtain ⟨i,rfl,hi,HI⟩:=hrel
   by_cases hlt:i < D.length
   ·have hlt':(i:Int) < D.length:=by omega
    have hic:i≤c:=by omega
    obtain ⟨g,o,rfl,hx⟩:=HS.out.e i hlt
    have hok:=HI.out
    have HN:Hid (D[i].b.length≤500→D[i].K.length≤100→D[i].nm.length≤200→D[i].t.length≤200→∀ j (h:j < D.length),j < i+1→okDm D[j]):=fun ha hb hc hd j h h2=>by
     by_cases e:j=i
     ·subst e;exact ⟨ha,hb,hc,hd⟩
     ·exact hok j h (by omega)
    obtain ⟨x,hxe⟩:∃ x,x=D[i]:=⟨_,rfl⟩
    rw [← hxe] at hx HN
    have c2:w.cell? ⟨g,o+i*6+2,none⟩=some (.string (str x.nm)):=hx 2 _ rfl
    have c3:w.cell? ⟨g,o+i*6+3,none⟩=some (.string (str x.t)):=hx 3 _ rfl
    have c4:w.cell? ⟨g,o+i*6+4,none⟩=some (.slice x.bo x.b.length x.bc):=hx 4 _ rfl
    have c5:w.cell? ⟨g,o+i*6+5,none⟩=some (.slice x.ko x.K.length x.kc):=hx 5 _ rfl
    have hsn:(str x.nm).size=x.nm.length:=str_size _
    have hst:(str x.t).size=x.t.length:=str_size _
    clear hx hxe hok
    by_cases hb:500 < x.b.length
    ·have hb':(500:Int) < x.b.length:=by omega
     go_wp2_with fail
     go_ret
     exact ⟨rmP_no D,rfl⟩
    have hb':¬ (500:Int) < x.b.length:=by omega
    by_cases hk:100 < x.K.length
    ·have hk':(100:Int) < x.K.length:=by omega
     go_wp2_with fail
     go_ret
     exact ⟨rmP_no D,rfl⟩
    have hk':¬ (100:Int) < x.K.length:=by omega
    by_cases hnm:200 < x.nm.length
    ·have hnm':(200:Int) < x.nm.length:=by omega
     go_wp2_with fail
     go_ret
     exact ⟨rmP_no D,rfl⟩
    have hnm':¬ (200:Int) < x.nm.length:=by omega
    by_cases ht:200 < x.t.length
    ·have ht':(200:Int) < x.t.length:=by omega
     go_wp2_with fail
     go_ret
     exact ⟨rmP_no D,rfl⟩
    have ht':¬ (200:Int) < x.t.length:=by omega
    have HE:=hide (HN.out (by omega) (by omega) (by omega) (by omega))
    go_wp2_with fail
    go_round
    case rel=>exact ⟨i+1,by go_num,by omega,HE⟩
    case measure=>simp [intOf];omega
   ·have hlt':¬ (i:Int) < D.length:=by omega
    have HE:Hid (∀ y∈D,okDm y):=fun y hy=>by
     obtain ⟨j,hj,rfl⟩:=List.getElem_of_mem hy
     exact HI.out j hj (by omega)
    have HLn:Hid (D.length≤200):=by show _≤_;omega
    go_wp2_with fail
    go_ret
    exact ⟨⟨true,rfl,fun _=>⟨HLn.out,HE.out⟩⟩,rfl⟩
end Go.Proofs.Yteiagkjhmhllnaa
