/-
  Drawn regions by hand: what is held may grow; what has come up, written out.
-/
import Derived.Test.YteiagkjhmhllnaaMemG
import Derived.Deep.RegionHeld3
namespace Go.Proofs.Yteiagkjhmhllnaa
open Go.RowKit
theorem wpAnyH_more {P:Program}{md:Region.Mode}{ops:Array Oper}{Q:Exit→Act→World→Prop}{S S':World→Prop}(hS:∀ w,S' w→S w):∀ (fuel:Nat) (listed:Array Bool) (a:Act) (w:World),wpAnyH P md ops Q S' fuel listed a w→wpAnyH P md ops Q S fuel listed a w
 | 0,_,_,_,h=>h
 | fuel+1,_,_,_,h=>⟨h.1,fun i hi=>wpOp_mono (fun a' w' h'=>⟨hS _ h'.1,wpAnyH_more hS fuel _ a' w' h'.2⟩) (h.2 i hi)⟩
theorem wpAnyH_list {P:Program}{md:Region.Mode}{ops:Array Oper}{Q:Exit→Act→World→Prop}{S:World→Prop}{fuel fuel':Nat}{listed l':Array Bool}{a:Act}{w:World}(hf:fuel=fuel') (h:listed=l') (k:wpAnyH P md ops Q S fuel' l' a w):wpAnyH P md ops Q S fuel listed a w:=by
 subst hf;subst h;exact k
theorem sT:(∀ {α:Type}{xs:List α}{i:Nat}(h:i < xs.toArray.size),xs.toArray[i]=xs[i]'(by simpa using h))∧(∀ {α:Type}{i:Nat}(a:α) (l:List α) (h:i+1 < (a :: l).length),(a :: l)[i+1]=l[i]'(Nat.lt_of_succ_lt_succ h))∧(∀ {α:Type}(a:α) (l:List α) (h:0 < (a :: l).length),(a :: l)[0]=a)∧(∀ {α:Type}(l:List α) (i:Nat) (x:α),l.toArray.setIfInBounds i x=(l.set i x).toArray)∧(∀ {α:Type}(a b:α) (l:List α),(a :: l).set 0 b=b :: l)∧(∀ {α:Type}(a b:α) (l:List α) (n:Nat),(a :: l).set (n+1) b=a :: l.set n b) :=
 ⟨fun h=>List.getElem_toArray h,fun _ _ _=>rfl,fun _ _ _=>rfl,fun l i x=>List.setIfInBounds_toArray l i x,fun _ _ _=>rfl,fun _ _ _ _=>rfl⟩
def runK (md:Region.Mode) (ops:Array Oper):List Nat→Array Bool→Bool
 | [],_=>true
 | i :: is,l=>((ops[i]?.any (·.dst.isSome)) && (Region.free md ops l i && (Region.ready md ops l).contains i)) && runK md ops is (l.setIfInBounds i true)
def setK:List Nat→Array Bool→Array Bool
 | [],l=>l
 | i :: is,l=>setK is (l.setIfInBounds i true)
def YK (P:Program) (ops:Array Oper) (S:World→Prop) (K:Act→Prop):List Nat→Act→Prop
 | [],a=>K a
 | i :: is,a=>∃ oi v,ops[i]?=some oi∧YieldsIf P ops S oi v a∧YK P ops S K is (a.put oi.dst v)
theorem yk {P:Program}{ops:Array Oper}{S:World→Prop}{K:Act→Prop}{i:Nat}{is:List Nat}{a:Act}(v:Value) {oi:Oper}(hi:ops[i]?=some oi) (hy:YieldsIf P ops S oi v a) (h:YK P ops S K is (a.put oi.dst v)):YK P ops S K (i :: is) a:=⟨oi,v,hi,hy,h⟩
theorem yk0 {P:Program}{ops:Array Oper}{S:World→Prop}{K:Act→Prop}{a:Act}(h:K a):YK P ops S K [] a:=h
theorem tksK {P:Program}{ops:Array Oper}{Q:Exit→Act→World→Prop}{md:Region.Mode}{S:World→Prop}{w:World}(hs:Region.noSelect ops=true) (hQ:∀ c a w t v,Q (.panic c) (Act.put a (some t) v) w→Q (.panic c) a w) (hS:S w):∀ (is:List Nat) {fuel:Nat}{listed:Array Bool}{a:Act},runK md ops is listed=true→YK P ops S (fun a'=>wpAnyH P md ops Q S fuel (setK is listed) a' w) is a→wpAnyH P md ops Q S (fuel+is.length) listed a w
 | [],_,_,_,_,h=>h
 | i :: is,fuel,listed,a,hk,h=>by
   obtain ⟨oi,v,hi,hy,h⟩:=h
   simp only [runK,Bool.and_eq_true] at hk
   have hd:=hk.1.1
   rw [hi] at hd
   obtain ⟨t,ht⟩:=Option.isSome_iff_exists.1 (show oi.dst.isSome=true from hd)
   exact wpAnyH_take hi hs hk.1.2.1 hk.1.2.2 (fun c a w hq=>hQ c a w t v (by rw [ht] at hq;exact hq)) hy hS (tksK hs hQ hS is hk.2 h)
theorem tks {P:Program}{ops:Array Oper}{Q:Exit→Act→World→Prop}{md:Region.Mode}{S:World→Prop}{w:World}(is:List Nat) {fuel fuel':Nat}{listed:Array Bool}{a:Act}(hf:fuel=fuel'+is.length) (hk:(Region.noSelect ops && runK md ops is listed)=true) (hQ:∀ c a w t v,Q (.panic c) (Act.put a (some t) v) w→Q (.panic c) a w) (hS:S w) (h:YK P ops S (fun a'=>wpAnyH P md ops Q S fuel' (setK is listed) a' w) is a):wpAnyH P md ops Q S fuel listed a w:=by
 rw [Bool.and_eq_true] at hk
 subst hf
 exact tksK hk.1 hQ hS is hk.2 h
theorem rd1 {P:Program}{ops:Array Oper}{Q:Exit→Act→World→Prop}{md:Region.Mode}{S:World→Prop}{w:World}{fuel:Nat}{listed:Array Bool}{a:Act}{o:Oper}(i:Nat) (hr:Region.ready md ops listed=[i]) (ho:ops[i]?=some o) (h:∀ K':Act→World→Prop,Shut (∀ a w,S w→(S w→wpAnyH P md ops Q S fuel (listed.setIfInBounds i true) a w)→K' a w)→if Region.wanted o (yielded ops a.tmps)=true then Oper.wp P o a w K' Q else K' (a.put o.dst undef) w):wpAnyH P md ops Q S (fuel+1) listed a w :=
 wpAnyH_ready hr (by simp) (AllReadyH.cons ho h AllReadyH.nil)
theorem tk {P:Program}{ops:Array Oper}{Q:Exit→Act→World→Prop}{md:Region.Mode}{S:World→Prop}{w:World}{fuel:Nat}{listed:Array Bool}{a:Act}{oi:Oper}(i:Nat) (v:Value) (hi:ops[i]?=some oi) (hk:(Region.noSelect ops && (Region.free md ops listed i && (Region.ready md ops listed).contains i))=true) (hQ:∀ c a w,Q (.panic c) (a.put oi.dst v) w→Q (.panic c) a w) (hy:YieldsIf P ops S oi v a) (hS:S w) (h:wpAnyH P md ops Q S fuel (listed.setIfInBounds i true) (a.put oi.dst v) w):wpAnyH P md ops Q S (fuel+1) listed a w:=by
 rw [Bool.and_eq_true,Bool.and_eq_true] at hk
 exact wpAnyH_take hi hk.1 hk.2.1 hk.2.2 hQ hy hS h
end Go.Proofs.Yteiagkjhmhllnaa
