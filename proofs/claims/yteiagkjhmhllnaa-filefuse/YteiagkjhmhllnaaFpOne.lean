/-
  One disk of the program's: its calls, with what they come to; layer 12's awake.
-/
import Derived.Test.YteiagkjhmhllnaaFpTwo
namespace Go.Proofs.Yteiagkjhmhllnaa
open Go.RowKit
theorem bdd_mk {L:List Fl}{s f:Int}{dd:Bool}(hs:0≤s∧s≤1000) (hf:-1≤f∧f≤1000) (hn:L.length≤10) (hL:∀ x∈L,x.b.length≤1000000∧x.l≤x.b.length):BdD ⟨L,s,f,dd⟩ :=
 ⟨⟨hs.1,by have:=hs.2;show s≤_;omega⟩,⟨hf.1,by have:=hf.2;show f < _;omega⟩,by show L.length≤_;omega,fun x hx=>by have:=(hL x hx).1;omega,fun x hx=>(hL x hx).2⟩
theorem bdd_0:BdD ⟨[],0,-1,false⟩:=bdd_mk ⟨by decide,by decide⟩ ⟨by decide,by decide⟩ (by decide) (fun x hx=>(by cases hx))
section
variable {w0 w W : World} {p : Nat} {d d' : Dk}
theorem One.app (h:One AtQ w0 w p d) (k:Kept [] w W) (hb:BdD d) (n:List UInt8) (hn:n.length≤1000000) (bo:Option Addr) (bn bc:Nat) (B:List Int) (hS:Sl W bo bn bc B) (hbn:bn≤1000000) {r:Int}(he:appF n B d=(d',r)) :
 Calls Try.prog 11 #[.pointer (some ⟨p,0,none⟩),.string (str n),.slice bo bn bc] W fun e w'=>e=.returned (.int .i64 r)∧One AtQ w0 w' p d':=by
 have h2:=(h.kept frmQ k).step (fun O h=>appQ h hb n hn bo bn bc B hS hbn)
 rw [he] at h2
 exact h2
theorem One.syn (h:One AtQ w0 w p d) (k:Kept [] w W) (hb:BdD d) (n:List UInt8) (hn:n.length≤1000000) {r:Int}(he:synF n d=(d',r)) :
 Calls Try.prog 12 #[.pointer (some ⟨p,0,none⟩),.string (str n)] W fun e w'=>e=.returned (.int .i64 r)∧One AtQ w0 w' p d':=by
 have h2:=(h.kept frmQ k).step (fun O h=>synQ h hb n hn)
 rw [he] at h2
 exact h2
theorem One.ren (h:One AtQ w0 w p d) (k:Kept [] w W) (hb:BdD d) (n t:List UInt8) (hn:n.length≤1000000) (ht:t.length≤1000000) {r:Int}(he:renF n t d=(d',r)) :
 Calls Try.prog 22 #[.pointer (some ⟨p,0,none⟩),.string (str n),.string (str t)] W fun e w'=>e=.returned (.int .i64 r)∧One AtQ w0 w' p d':=by
 have h2:=(h.kept frmQ k).step (fun O h=>renQ h hb n t hn ht)
 rw [he] at h2
 exact h2
theorem One.arm (h:One AtQ w0 w p d) (k:Kept [] w W) (z:Int) (he:armF z d=d') :
 Calls Try.prog 10 #[.pointer (some ⟨p,0,none⟩),.int .i64 z] W fun e w'=>e=.returned (.tuple #[])∧One AtQ w0 w' p d':=by
 have h2:=(h.kept frmQ k).step (fun O h=>armQ h z)
 rw [he] at h2
 exact h2
def Told (w:World) (v:Value) (L:List Int):Prop:=∃ a c,v=.slice a L.length c∧Own w (.slice a L.length c) L
theorem Told.kept {v:Value}{L:List Int}(h:Told w v L) (k:Kept [] w W):Told W v L:=by
 obtain ⟨a,c,h1,h2⟩:=h
 exact ⟨a,c,h1,k.ownsRow h2 (by simp)⟩
theorem One.red (h:One AtQ w0 w p d) (k:Kept [] w W) (hb:BdD d) (n:List UInt8) (hn:n.length≤1000000) {L:List Int}(he:redF n d=some L) :
 Calls Try.prog 13 #[.pointer (some ⟨p,0,none⟩),.string (str n)] W fun e w'=>(∃ a c,e=.returned (.tuple #[.slice a L.length c,.bool true])∧Own w' (.slice a L.length c) L)∧One AtQ w0 w' p d∧Kept [] W w':=by
 refine One.read frmQ (h.kept frmQ k) fun O h=>(redQ h hb n hn).mono ?_
 intro e w' h3
 rw [he] at h3
 obtain ⟨h4,a,c,h5,h6,_⟩:=h3
 exact ⟨⟨a,c,h5,h6⟩,h4⟩
theorem One.redN (h:One AtQ w0 w p d) (k:Kept [] w W) (hb:BdD d) (n:List UInt8) (hn:n.length≤1000000) (he:redF n d=none) :
 Calls Try.prog 13 #[.pointer (some ⟨p,0,none⟩),.string (str n)] W fun e w'=>e=.returned (.tuple #[.slice none 0 0,.bool false])∧One AtQ w0 w' p d∧Kept [] W w':=by
 refine One.read frmQ (h.kept frmQ k) fun O h=>(redQ h hb n hn).mono ?_
 intro e w' h3
 rw [he] at h3
 obtain ⟨h4,h5⟩:=h3
 exact ⟨h5,h4⟩
theorem One.sts (h:One AtQ w0 w p d) (k:Kept [] w W) :
 Calls Try.prog 15 #[.pointer (some ⟨p,0,none⟩)] W fun e w'=>e=.returned (.int .i64 d.s)∧w'=W:=by
 obtain ⟨O,h1,_⟩:=h.kept frmQ k
 exact stsQ h1
theorem One.ded (h:One AtQ w0 w p d) (k:Kept [] w W) :
 Calls Try.prog 14 #[.pointer (some ⟨p,0,none⟩)] W fun e w'=>e=.returned (.bool d.d)∧w'=W:=by
 obtain ⟨O,h1,_⟩:=h.kept frmQ k
 exact dedQ h1
theorem One.crs (h:One AtQ w0 w p d) (k:Kept [] w W) (hb:BdD d) (ko:Option Addr) (kn kc:Nat) (K:List Int) (hK:SlI W ko kn kc K) (hKw:∀ z∈K,-9223372036854775808≤z∧z < 9223372036854775808) (he:crsF K d=d') :
 Calls Try.prog 29 #[.pointer (some ⟨p,0,none⟩),.slice ko kn kc] W fun e w'=>∃ p2,e=.returned (.pointer (some ⟨p2,0,none⟩))∧One AtQ w0 w' p2 d'∧Kept [] W w':=by
 obtain ⟨O,h1,_,h3⟩:=h.kept frmQ k
 have h2:=One.new (A:=AtQ) h3 (crsQ h1 hb ko kn kc K hK hKw)
 rw [he] at h2
 exact h2
theorem One.now (hk:Kept [] w0 w):Calls Try.prog 9 #[] w fun e w'=>∃ p,e=.returned (.pointer (some ⟨p,0,none⟩))∧One AtQ w0 w' p ⟨[],0,-1,false⟩∧Kept [] w w':=One.new hk (newP_call w)
theorem One.k (h:One AtQ w0 w p d):Kept [] w0 w:=by
 obtain ⟨O,_,_,h3⟩:=h
 exact h3
end
theorem sliNil (w:World):SlI w none 0 0 []:=⟨rfl,Nat.le_refl _,Nat.zero_le _,fun i hi=>by simp at hi⟩
def aw1:Dk:=⟨[⟨[97],[1,2],0⟩],1,-1,false⟩
def aw2:Dk:=⟨[⟨[97],[1,2],2⟩],2,-1,false⟩
def aw3:Dk:=⟨[⟨[97],[1,2,3,4],2⟩],3,-1,false⟩
theorem aw_1:appF [97] [1,2] ⟨[],0,-1,false⟩=(aw1,0):=rfl
theorem aw_2:synF [97] aw1=(aw2,0):=rfl
theorem aw_3:appF [97] [3,4] aw2=(aw3,0):=rfl
theorem aw_4:crsF [1] aw3=⟨[⟨[97],[1,2,3],3⟩],0,-1,false⟩:=rfl
theorem aw_5:crsF [] aw3=⟨[⟨[97],[1,2],2⟩],0,-1,false⟩:=rfl
theorem aw_6:redF [97] ⟨[⟨[97],[1,2,3],3⟩],0,-1,false⟩=some [1,2,3]:=rfl
theorem aw_7:redF [97] ⟨[⟨[97],[1,2],2⟩],0,-1,false⟩=some [1,2]:=rfl
theorem bd_1:BdD aw1:=bdd_mk (by decide) (by decide) (by decide) (fun x hx=>by simp at hx;subst hx;decide)
theorem bd_2:BdD aw2:=bdd_mk (by decide) (by decide) (by decide) (fun x hx=>by simp at hx;subst hx;decide)
theorem bd_3:BdD aw3:=bdd_mk (by decide) (by decide) (by decide) (fun x hx=>by simp at hx;subst hx;decide)
theorem bd_4:BdD ⟨[⟨[97],[1,2,3],3⟩],0,-1,false⟩:=bdd_mk (by decide) (by decide) (by decide) (fun x hx=>by simp at hx;subst hx;decide)
theorem bd_5:BdD ⟨[⟨[97],[1,2],2⟩],0,-1,false⟩:=bdd_mk (by decide) (by decide) (by decide) (fun x hx=>by simp at hx;subst hx;decide)
set_option maxHeartbeats 4000000 in
set_option maxRecDepth 100000 in
theorem awake12_call (w:World):Calls Try.prog 8 #[] w fun e w'=>e=.returned (.bool true)∧Kept [] w w':=by
 go_enter Try.func8,Try.ntmps8
 go_wp2_with (first
  | (go_at_call 9;refine (One.now (Kept.refl [] w)).mono ?_;rintro _ w1 ⟨p,rfl,h1,_⟩;have H1:=hide h1;clear h1)
  | (go_at_call 11;refine (One.app H1.out ((Kept.refl _ _).alloc _) bdd_0 [97] (by decide) _ 2 2 [1,2] (slLit _ [1,2] (by decide)) (by decide) aw_1).mono ?_;clear H1;rintro _ w2 ⟨rfl,h2⟩;have H2:=hide h2;clear h2)
  | (go_at_call 12;refine (One.syn H2.out (Kept.refl _ _) bd_1 [97] (by decide) aw_2).mono ?_;clear H2;rintro _ w3 ⟨rfl,h3⟩;have H3:=hide h3;clear h3)
  | (go_at_call 11;refine (One.app H3.out ((Kept.refl _ _).alloc _) bd_2 [97] (by decide) _ 2 2 [3,4] (slLit _ [3,4] (by decide)) (by decide) aw_3).mono ?_;clear H3;rintro _ w4 ⟨rfl,h4⟩;have H4:=hide h4;clear h4)
  | (go_at_call 29;refine (One.crs H4.out ((Kept.refl _ _).alloc _) bd_3 _ 1 1 [1] (sliLit _ [1] (by decide)) (by decide) aw_4).mono ?_;rintro _ w5 ⟨p5,rfl,h5,hk5⟩;have H5:=hide h5;have H6:=hide (H4.out.kept frmQ (((Kept.refl _ _).alloc _).trans hk5 (by simp)));clear h5 hk5 H4)
  | (go_at_call 13;refine (One.red H5.out (Kept.refl _ _) bd_4 [97] (by decide) aw_6).mono ?_;clear H5;rintro _ w7 ⟨⟨a7,c7,rfl,ho7⟩,_,hk7⟩;have HO7:=hide ho7;have H7:=hide (H6.out.kept frmQ hk7);clear ho7 hk7 H6)
  | (go_at_call 29;refine (One.crs H7.out (Kept.refl _ _) bd_3 _ 0 0 [] (sliNil _) (by decide) aw_5).mono ?_;rintro _ w8 ⟨p8,rfl,h8,hk8⟩;have H8:=hide h8;have HO8:=hide (hk8.ownsRow HO7.out (by simp));clear h8 hk8 H7 HO7)
  | (go_at_call 13;refine (One.red H8.out (Kept.refl _ _) bd_5 [97] (by decide) aw_7).mono ?_;rintro _ w9 ⟨⟨a9,c9,rfl,ho9⟩,h9,hk9⟩;have HK9:=hide h9.k;have HO9:=hide ho9;have HO10:=hide (hk9.ownsRow HO8.out (by simp));clear ho9 h9 hk9 H8 HO8;obtain ⟨_,_,e10,_,_,hs10⟩:=mkown HO10.out;cases e10;obtain ⟨_,_,e9,_,_,hs9⟩:=mkown HO9.out;cases e9;have HS10:=hide hs10;have HS9:=hide hs9;clear hs10 hs9)
  | (go_at_call 33;refine (bsame_call _ _ _ _ _ _ _ [1,2,3] [1,2,3] (Sl.kept (S:=[]) ((Kept.refl _ _).alloc _) HS10.out (by simp)) (slLit _ [1,2,3] (by decide))).mono ?_;clear HS10;rintro _ w11 ⟨rfl,hk11⟩;have HK11:=hide hk11;clear hk11;simp only [decide_true])
  | (go_at_call 33;refine (bsame_call _ _ _ _ _ _ _ [1,2] [1,2] (Sl.kept (S:=[]) (((Kept.refl [] _).alloc _).trans (HK11.out.alloc _) (by simp)) HS9.out (by simp)) (slLit _ [1,2] (by decide))).mono ?_;clear HS9;rintro _ w12 ⟨rfl,hk12⟩;have HK12:=hide hk12;clear hk12;simp only [decide_true]))
 go_ret
 exact ⟨rfl,(((HK9.out.alloc _).trans HK11.out (by simp)).alloc _).trans HK12.out (by simp)⟩
end Go.Proofs.Yteiagkjhmhllnaa
