/-
  FileKnown: the walk.
-/
import Derived.Test.YteiagkjhmhllnaaFpOne
namespace Go.Proofs.Yteiagkjhmhllnaa
open Go.RowKit
def kn1:Dk:=⟨[],0,1,false⟩
def kn2:Dk:=⟨[⟨[97],[5],0⟩],1,0,false⟩
def kn3:Dk:=⟨[⟨[97],[5],0⟩],2,0,true⟩
theorem kn_1:armF 1 ⟨[],0,-1,false⟩=kn1:=rfl
theorem kn_2:appF [97] [5] kn1=(kn2,0):=rfl
theorem kn_3:synF [97] kn2=(kn3,7):=rfl
theorem kn_4:appF [97] [6] kn3=(kn3,7):=rfl
theorem kn_5:redF [98] kn3=none:=rfl
theorem kb_1:BdD kn1:=bdd_mk (by decide) (by decide) (by decide) (fun x hx=>(by cases hx))
theorem kb_2:BdD kn2:=bdd_mk (by decide) (by decide) (by decide) (fun x hx=>by simp at hx;subst hx;decide)
theorem kb_3:BdD kn3:=bdd_mk (by decide) (by decide) (by decide) (fun x hx=>by simp at hx;subst hx;decide)
set_option maxHeartbeats 4000000 in
set_option maxRecDepth 100000 in
theorem knownF_walk (w:World):Calls Try.prog 3 #[] w fun e w'=>e=.returned (.bool true)∧Kept [] w w':=by
 go_enter Try.func3,Try.ntmps3
 go_wp2_with (first
  | (go_at_call 8;refine (awake12_call w).mono ?_;rintro _ w0 ⟨rfl,hk0⟩;have HK0:=hide hk0;clear hk0)
  | (go_at_call 9;refine (One.now HK0.out).mono ?_;rintro _ w1 ⟨p,rfl,h1,_⟩;have H1:=hide h1;clear h1)
  | (go_at_call 10;refine (One.arm H1.out (Kept.refl _ _) 1 kn_1).mono ?_;clear H1;rintro _ w2 ⟨rfl,h2⟩;have H2:=hide h2;clear h2)
  | (go_at_call 11;refine (One.app H2.out ((Kept.refl _ _).alloc _) kb_1 [97] (by decide) _ 1 1 [5] (slLit _ [5] (by decide)) (by decide) kn_2).mono ?_;clear H2;rintro _ w3 ⟨rfl,h3⟩;have H3:=hide h3;clear h3)
  | (go_at_call 12;refine (One.syn H3.out (Kept.refl _ _) kb_2 [97] (by decide) kn_3).mono ?_;clear H3;rintro _ w4 ⟨rfl,h4⟩;have H4:=hide h4;clear h4)
  | (go_at_call 11;refine (One.app H4.out ((Kept.refl _ _).alloc _) kb_3 [97] (by decide) _ 1 1 [6] (slLit _ [6] (by decide)) (by decide) kn_4).mono ?_;clear H4;rintro _ w5 ⟨rfl,h5⟩;have H5:=hide h5;clear h5)
  | (go_at_call 13;refine (One.redN H5.out (Kept.refl _ _) kb_3 [98] (by decide) kn_5).mono ?_;clear H5;rintro _ w6 ⟨rfl,h6,_⟩;have H6:=hide h6;clear h6)
  | (go_at_call 14;refine (One.ded H6.out (Kept.refl _ _)).mono ?_;rintro _ _ ⟨rfl,rfl⟩;unfold kn3)
  | (go_at_call 15;refine (One.sts H6.out (Kept.refl _ _)).mono ?_;rintro _ _ ⟨rfl,rfl⟩;unfold kn3))
 go_ret
 exact ⟨rfl,H6.out.k⟩
end Go.Proofs.Yteiagkjhmhllnaa
