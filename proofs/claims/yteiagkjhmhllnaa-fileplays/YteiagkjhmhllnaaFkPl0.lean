/-
  The document's disk, wherever it lies; looks, wherever both lie.
-/
import Derived.Test.YteiagkjhmhllnaaFpTwb
import Derived.Test.YteiagkjhmhllnaaFpLoo
import Derived.Test.YteiagkjhmhllnaaFpOne
import Derived.Test.YteiagkjhmhllnaaFpFlp
import Derived.Test.YteiagkjhmhllnaaFpCln
import Derived.Test.YteiagkjhmhllnaaFdCrs
import Derived.Test.YteiagkjhmhllnaaFdFlp
import Derived.Test.YteiagkjhmhllnaaFdBd
namespace Go.Proofs.Yteiagkjhmhllnaa
open Go.RowKit
section
variable {w : World} {O : List Nat} {p : Nat} {d : Dk}
theorem appD (h:AtF w O p d) (hb:BdD d) (n:List UInt8) (bo:Option Addr) (bn bc:Nat) (B:List Int) (hS:Sl w bo bn bc B) (hbn:bn≤10000000000) (hd:0 < bn→∀ k∈blk bo,k ∉ O) :
 Calls Try.prog 18 #[.pointer (some ⟨p,0,none⟩),.string (str n),.slice bo bn bc] w fun e w'=>e=.returned (.int .i64 (appF n B d).2)∧ChP AtF p w O (appF n B d).1 w':=by
 obtain ⟨v,X,h⟩:=h
 exact dappF_call h hb n bo bn bc B hS hbn hd
theorem synD (h:AtF w O p d) (hb:BdD d) (n:List UInt8):Calls Try.prog 19 #[.pointer (some ⟨p,0,none⟩),.string (str n)] w fun e w'=>e=.returned (.int .i64 (synF n d).2)∧ChP AtF p w O (synF n d).1 w':=by
 obtain ⟨v,X,h⟩:=h
 exact dsynF_call h hb n
theorem rmvD (h:AtF w O p d) (hb:BdD d) (n:List UInt8):Calls Try.prog 25 #[.pointer (some ⟨p,0,none⟩),.string (str n)] w fun e w'=>e=.returned (.int .i64 (rmvF n d).2)∧ChP AtF p w O (rmvF n d).1 w':=by
 obtain ⟨v,X,h⟩:=h
 exact drmvF_call h hb n
theorem armD (h:AtF w O p d) (k:Int):Calls Try.prog 26 #[.pointer (some ⟨p,0,none⟩),.int .i64 k] w fun e w'=>e=.returned (.tuple #[])∧ChP AtF p w O (armF k d) w':=by
 obtain ⟨v,X,h⟩:=h
 exact darmF_call h k
theorem truD (h:AtF w O p d) (hb:BdD d) (n:List UInt8) (k:Int):Calls Try.prog 21 #[.pointer (some ⟨p,0,none⟩),.string (str n),.int .i64 k] w fun e w'=>e=.returned (.int .i64 (truF n k d).2)∧ChP AtF p w O (truF n k d).1 w':=by
 obtain ⟨v,X,h⟩:=h
 exact dtruF_call h hb n k
theorem renD (h:AtF w O p d) (hb:BdD d) (n t:List UInt8):Calls Try.prog 23 #[.pointer (some ⟨p,0,none⟩),.string (str n),.string (str t)] w fun e w'=>e=.returned (.int .i64 (renF n t d).2)∧ChP AtF p w O (renF n t d).1 w':=by
 obtain ⟨v,X,h⟩:=h
 exact drenF_call h hb n t
theorem flpD (h:AtF w O p d) (hb:BdD d) (n:List UInt8) (k:Int) (hk:-9223372036854775808≤k∧k < 9223372036854775808):Calls Try.prog 28 #[.pointer (some ⟨p,0,none⟩),.string (str n),.int .i64 k] w fun e w'=>e=.returned (.bool (flpF n k d).2)∧ChP AtF p w O (flpF n k d).1 w':=by
 obtain ⟨v,X,h⟩:=h
 exact dflpF_call h hb n k hk
theorem crsD (h:AtF w O p d) (hb:BdD d) (ko:Option Addr) (kn kc:Nat) (K:List Int) (hK:SlI w ko kn kc K):Calls Try.prog 30 #[.pointer (some ⟨p,0,none⟩),.slice ko kn kc] w fun e w'=>NwP AtF w (crsF K d) e w':=by
 obtain ⟨v,X,h⟩:=h
 refine (dcrsF_call h hb ko kn kc K hK).mono ?_
 rintro e w' ⟨rfl,O',h1,h2,h3⟩
 exact ⟨_,O',rfl,h1,h3,h2⟩
theorem newD (w:World):Calls Try.prog 17 #[] w fun e w'=>NwP AtF w ⟨[],0,-1,false⟩ e w':=by
 refine (dnewF_call w).mono ?_
 rintro e w' ⟨rfl,rfl⟩
 exact ⟨_,_,rfl,dnewF_at w,by simp,(Kept.refl _ _).alloc _⟩
theorem flpQ (h:AtQ w O p d) (hb:BdD d) (n:List UInt8) (hn:n.length≤1000000) (k:Int) (hk:-9223372036854775808≤k∧k < 9223372036854775808):Calls Try.prog 27 #[.pointer (some ⟨p,0,none⟩),.string (str n),.int .i64 k] w fun e w'=>e=.returned (.bool (flpF n k d).2)∧ChP AtQ p w O (flpF n k d).1 w':=by
 obtain ⟨mb,q,X,h⟩:=h
 exact flpP_call h hb n hn k hk
theorem clnQ (h:AtQ w O p d) (hb:BdD d):Calls Try.prog 31 #[.pointer (some ⟨p,0,none⟩)] w fun e w'=>NwP AtQ w d e w':=by
 obtain ⟨mb,q,X,h⟩:=h
 exact clnP_call h hb
end
theorem looksB {w0 w:World}{p pd:Nat}{d:Dk}(h:Two AtQ AtF w0 w p pd d d) (hb:BdD d):Calls Try.prog 32 #[.pointer (some ⟨p,0,none⟩),.pointer (some ⟨pd,0,none⟩)] w fun e w'=>e=.returned (.bool true)∧Two AtQ AtF w0 w' p pd d d:=by
 have h0:=h
 obtain ⟨O,Od,⟨mb,q,X,h1⟩,⟨v,Xd,h2⟩,_⟩:=h
 refine (looks_call h1 h2 hb).mono ?_
 rintro e w' ⟨rfl,hk⟩
 exact ⟨rfl,h0.kept frmQ frmF hk⟩
def BndF (pg:Nat) (dg:Dk) (w:World) (O:List Nat) (pd:Nat) (dd:Dk):Prop:=∃ O1 O2,O=O1++O2∧AtF w O1 pd dd∧AtQ w O2 pg dg∧∀ k∈O1,k ∉ O2
theorem frmB (pg:Nat) (dg:Dk):Frm (BndF pg dg):=by
 refine ⟨?_,?_⟩
 ·rintro S w w' O p d ⟨O1,O2,rfl,h1,h2,h3⟩ k hS
  exact ⟨O1,O2,rfl,h1.kept k (fun i hi=>hS i (by simp [hi])),h2.kept k (fun i hi=>hS i (by simp [hi])),h3⟩
 ·rintro w O p d ⟨O1,O2,rfl,h1,h2,h3⟩ k hk
  rcases List.mem_append.1 hk with hk | hk
  ·exact h1.lt k hk
  ·exact h2.lt k hk
section
variable {w0 w : World} {p pd pg : Nat} {d dd dg : Dk} {f : FuncId} {args : Array Value} {b : Nat} {T : TypeId} {cs : List Value}
theorem TwoB.bind (h:TwoB AtQ AtF w0 w p pd d dd b T cs) (hc:∀ O,AtQ w O p d→Calls Try.prog f args w fun e w'=>NwP AtQ w dg e w'):Calls Try.prog f args w fun e w'=>∃ pg,e=.returned (.pointer (some ⟨pg,0,none⟩))∧TwoB AtQ (BndF pg dg) w0 w' p pd d dd b T cs:=by
 obtain ⟨O,Od,h1,h2,h3,h4,h5,h6,hx,hy,hz⟩:=h
 refine (hc O h1).mono ?_
 rintro e w' ⟨pg,O2,he,h7,h8,h9⟩
 refine ⟨pg,he,O,Od++O2,h1.kept h9 (by simp),⟨Od,O2,rfl,h2.kept h9 (by simp),h7,fun k hk hm=>by have:=h8 k hm;have:=h2.lt k hk;omega⟩,fun k hk hm=>?_,h4,fun k hk=>?_,h6.trans h9 (by simp),hx.kept h9 (by simp),hy,fun hm=>?_⟩
 ·rcases List.mem_append.1 hm with hm | hm
  ·exact h3 k hk hm
  ·have:=h8 k hm;have:=h1.lt k hk;omega
 ·rcases List.mem_append.1 hk with hk | hk
  ·exact h5 k hk
  ·have:=h8 k hk;have:=h6.size;omega
 ·rcases List.mem_append.1 hm with hm | hm
  ·exact hz hm
  ·have:=h8 b hm;have:=hx.lt;omega
theorem TwoB.unbind (h:TwoB AtQ (BndF pg dg) w0 w p pd d dd b T cs):TwoB AtQ AtF w0 w pg pd dg dd b T cs:=by
 obtain ⟨O,Od,h1,⟨O1,O2,rfl,h21,h22,h23⟩,h3,h4,h5,h6,hx,hy,hz⟩:=h
 exact ⟨O2,O1,h22,h21,fun k hk hm=>h23 k hm hk,fun k hk=>h5 k (by simp [hk]),fun k hk=>h5 k (by simp [hk]),h6,hx,fun hm=>hz (by simp [hm]),fun hm=>hz (by simp [hm])⟩
end
end Go.Proofs.Yteiagkjhmhllnaa
