/-
  Texts laid as one.
-/
import Derived.Test.YtakafmejllilnaaGreatF7e
import Derived.Test.YtakafmejllilnaaGreatF3e
import Derived.Test.YtakafmejllilnaaGreatF4e
import Derived.Test.YtakafmejllilnaaGreatW5e
set_option maxHeartbeats 1000000
/-
 The hand that writes.
-/
namespace Go.Proofs.YtakafmejllilnaaGreat
open Go.RowKit
def bP:PH (List Int × Int) where
 num s n:=(n,dM s.2 s.1 n)
 upTo s n t:=if t < n then (0,aY s.2) else (n,dM s.2 s.1 n)
 text s l:=(l,if 255 < l.length then bD (aY s.2).2 (aY s.2).1 (dg (ac l)) else bD s.2 s.1 (dg (ac l)))
 flag s b:=(b,cQ s.2 s.1 b)
 word s x:=(x,ex s.2 s.1 x)
def dW (p:Nat) (w:World) (O:List Nat) (s:List Int × Int) (m:Nat):Prop:=∃ g:Option Nat,O=p :: g.toList∧Wr w p g s.1 s.2∧s.1.length+300*m≤1000000000
def rV (p:Nat):da:=⟨145,146,147,148,149,.agg #[.pointer (some ⟨p,0,none⟩)]⟩
theorem bj.trans {σ:Type}{At:World→List Nat→σ→Nat→Prop}{w w1 w2:World}{O O1:List Nat}{s:σ}{m:Nat}(k1:ab O w w1) (n1:∀ k∈O1,k∈O∨w.heap.size≤k) (h:bj At w1 O1 s m w2):bj At w O s m w2:=by
 obtain ⟨O2,h1,h2,h3⟩:=h;refine ⟨O2,h1,k1.trans h2 n1,fun k hk=>?_⟩;rcases h3 k hk with h4 | h4
 ·exact n1 k h4
 ·exact .inr (Nat.le_trans k1.size h4)
theorem dD {w wa w':World}{p:Nat}{g:Option Nat}{q:List Int × Int}{r:Ending}{m:Nat}(hk:ab [] w wa) (h:bU wa p g q r w') (hl:q.1.length+300*m≤1000000000):bj (dW p) w (p :: g.toList) q m w':=by
 obtain ⟨_,g',h2,h3,h4⟩:=h;refine ⟨p :: g'.toList,⟨g',rfl,h2,hl⟩,(hk.mono (by simp)).trans h4 (fun i hi=>.inl hi),fun k hk'=>?_⟩;rcases List.mem_cons.1 hk' with h5 | h5
 ·exact .inl (by rw [h5];exact List.mem_cons_self ..)
 ·rcases h3 k (by simpa using h5) with h6 | h6
  ·exact .inl (List.mem_cons_of_mem _ (by simpa using h6))
  ·exact .inr (Nat.le_trans hk.size h6)
theorem kQ (e:Int) (l:List Int) (n:Int):(dM e l n).1.length≤l.length+6:=by
 unfold dM;split
 ·split
  ·have:=bn 5 n;simp [ag];omega
  ·simp
 ·simp
theorem pH (e:Int) (l m:List Int) (h:m.length≤255):(bD e l m).1.length≤l.length+261:=by
 unfold bD;split
 ·split
  ·have:=bn 5 (m.length:Int);simp [ag];omega
  ·simp
 ·simp
theorem en (e:Int):(aY e).1=[]∧(aY e).2≠0:=by
 unfold aY;split
 ·simp
 ·rename_i h;exact ⟨rfl,h⟩
theorem iC {e:Int}(he:e≠0) (l m:List Int):bD e l m=([],e):=by unfold bD;rw [if_neg he]
theorem lD (l:List UInt8):(dg (ac l)).length=l.length:=by rw [eM,bJ]
theorem qU (p:Nat) (w:World) (O:List Nat) (s:List Int × Int) (m:Nat) (n:Int) (hA:dW p w O s (m+1)) :
 Calls Tryz.prog 145 #[.agg #[.pointer (some ⟨p,0,none⟩)],.int .i64 n] w fun r w'=>r=.returned (.int .i64 n)∧bj (dW p) w O (dM s.2 s.1 n) m w':=by
 obtain ⟨g,rfl,hw,hl⟩:=hA;have hK:ab [] w (w.alloc (.cells #[.pointer (some ⟨p,0,none⟩)] 171)):=(ab.refl _ _).alloc _;have hw1:=Wr.kept hK hw (by simp) (by simp);have HW:=aa hw1;clear hw hw1;go_enter Tryz.func145,Tryz.ntmps145;go_wp2_with fail
 refine (ln _ p g s.1 s.2 n HW.out (by omega)).mono ?_;rintro _ w1 hW;have hr:=hW.1;subst hr;have H1:=aa (dD (m:=m) hK hW (by have:=kQ s.2 s.1 n;omega));clear hW;go_wp2_with fail
 go_ret
 exact ⟨rfl,H1.out⟩
theorem tc (p:Nat) (w:World) (O:List Nat) (s:List Int × Int) (m:Nat) (n t:Int) (hA:dW p w O s (m+1)) :
 Calls Tryz.prog 146 #[.agg #[.pointer (some ⟨p,0,none⟩)],.int .i64 n,.int .i64 t] w fun r w'=>r=.returned (.int .i64 (bP.upTo s n t).1)∧bj (dW p) w O (bP.upTo s n t).2 m w':=by
 by_cases h:t < n
 ·have HQ:Hid (bP.upTo s n t=(0,aY s.2)):=by show (if t < n then _ else _)=_;rw [if_pos h]
  obtain ⟨g,rfl,hw,hl⟩:=hA;have hK:ab [] w (w.alloc (.cells #[.pointer (some ⟨p,0,none⟩)] 171)):=(ab.refl _ _).alloc _;have hw1:=Wr.kept hK hw (by simp) (by simp);have HW:=aa hw1;clear hw hw1;go_enter Tryz.func146,Tryz.ntmps146;(go_wp2_with fail);refine (eL _ p g s.1 s.2 HW.out).mono ?_;rintro _ w1 hW;have hr:=hW.1;subst hr;have H1:=aa (dD (m:=m) hK hW (by rw [(en s.2).1];simp;omega));clear hW;(go_wp2_with fail);go_ret
  rw [HQ.out];exact ⟨rfl,H1.out⟩
 ·have HQ:Hid (bP.upTo s n t=(n,dM s.2 s.1 n)):=by show (if t < n then _ else _)=_;rw [if_neg h]
  have hb:decide (t < n)=false:=by simp;omega
  have hb2:decide (n > t)=false:=by simp;omega
  have hK:ab [] w (w.alloc (.cells #[.pointer (some ⟨p,0,none⟩)] 171)):=(ab.refl _ _).alloc _
  have hA1:dW p (w.alloc (.cells #[.pointer (some ⟨p,0,none⟩)] 171)) O s (m+1):=by
   obtain ⟨g,e,hw,hl⟩:=hA;exact ⟨g,e,Wr.kept hK hw (by simp) (by simp),hl⟩
  have cN:=qU p _ O s m n hA1;clear hA hA1;go_enter Tryz.func146,Tryz.ntmps146;(go_wp2_with fail);refine cN.mono ?_;rintro _ w1 ⟨rfl,hW⟩;have H1:=aa (bj.trans (hK.mono (by simp)) (fun k hk=>.inl hk) hW);clear hW;(go_wp2_with fail);go_ret
  rw [HQ.out];exact ⟨rfl,H1.out⟩
set_option maxRecDepth 100000 in
theorem tL (p:Nat) (w:World) (O:List Nat) (s:List Int × Int) (m:Nat) (l:List UInt8) (hA:dW p w O s (m+1)) (hx:l.length≤140737488351232) :
 Calls Tryz.prog 147 #[.agg #[.pointer (some ⟨p,0,none⟩)],.string (ac l)] w fun r w'=>r=.returned (.string (ac (bP.text s l).1))∧bj (dW p) w O (bP.text s l).2 m w':=by
 have hsz:(ac l).size=l.length:=bJ l;have HSZ:=aa hsz;have HX:=aa hx;by_cases h:255 < l.length
 ·have HQ:Hid (bP.text s l=(l,bD (aY s.2).2 (aY s.2).1 (dg (ac l)))):=by show (l,if 255 < l.length then _ else _)=_;rw [if_pos h]
  have hb:decide (((ac l).size:Int) > 255)=true:=by simp;omega
  have hb2:decide ((255:Int) < ((ac l).size:Int))=true:=by simp;omega
  clear hsz hx h;obtain ⟨g,rfl,hw,hl⟩:=hA;have HLW:=aa hw.lt;have hK:ab [] w (w.alloc (.cells #[.pointer (some ⟨p,0,none⟩)] 171)):=(ab.refl _ _).alloc _;have hw1:=Wr.kept hK hw (by simp) (by simp);have HW:=aa hw1;clear hw hw1;go_enter Tryz.func147,Tryz.ntmps147;(go_wp2_with fail);refine (eL _ p g s.1 s.2 HW.out).mono ?_;rintro _ w1 hW;have hr:=hW.1;subst hr;obtain ⟨O1,⟨g1,rfl,hw1,hl1⟩,hk1,hn1⟩:=dD (m:=m) hK hW (by rw [(en s.2).1];simp;omega)
  have hc1:w1.cell? ⟨w.heap.size,0,none⟩=some (.pointer (some ⟨p,0,none⟩)):=by
   obtain ⟨_,_,_,_,hk⟩:=hW;refine hk.cell (by simp [World.cell?_alloc_new]) (fun hm=>?_);rcases List.mem_cons.1 hm with h9 | h9
   ·have:=HLW.out.1;simp at h9;omega
   ·have:=HLW.out.2 _ (by simpa using h9);simp at this
  have HW1:=aa hw1;clear hW hw1;(go_wp2_with fail);refine (kf _ p g1 _ _ (ac l) HW1.out (by rw [HSZ.out];have:=HX.out;omega) (by omega)).mono ?_;rintro _ w2 hW2;have hr:=hW2.1;subst hr;have H2:=aa (bj.trans hk1 hn1 (dD (m:=m) (ab.refl [] w1) hW2 (by rw [iC (en s.2).2];simp;omega)));clear hW2;(go_wp2_with fail);go_ret
  rw [HQ.out];exact ⟨rfl,H2.out⟩
 ·have HQ:Hid (bP.text s l=(l,bD s.2 s.1 (dg (ac l)))):=by show (l,if 255 < l.length then _ else _)=_;rw [if_neg h]
  have hb:decide (((ac l).size:Int) > 255)=false:=by simp;omega
  have hb2:decide ((255:Int) < ((ac l).size:Int))=false:=by simp;omega
  have H255:Hid (l.length≤255):=by show l.length≤255;omega
  clear hsz hx h;obtain ⟨g,rfl,hw,hl⟩:=hA;have hK:ab [] w (w.alloc (.cells #[.pointer (some ⟨p,0,none⟩)] 171)):=(ab.refl _ _).alloc _;have hw1:=Wr.kept hK hw (by simp) (by simp);have HW:=aa hw1;clear hw hw1;go_enter Tryz.func147,Tryz.ntmps147;(go_wp2_with fail);refine (kf _ p g s.1 s.2 (ac l) HW.out (by rw [HSZ.out];have:=HX.out;omega) (by omega)).mono ?_;rintro _ w1 hW;have hr:=hW.1;subst hr;have H1:=aa (dD (m:=m) hK hW (by have:=pH s.2 s.1 (dg (ac l)) (by rw [lD];exact H255.out);omega));clear hW;(go_wp2_with fail);go_ret
  rw [HQ.out];exact ⟨rfl,H1.out⟩
theorem oE (e:Int) (l:List Int) (b:Bool):(cQ e l b).1.length≤l.length+8:=by
 unfold cQ;split
 ·simp
 ·simp
theorem uN (p:Nat) (w:World) (O:List Nat) (s:List Int × Int) (m:Nat) (b:Bool) (hA:dW p w O s (m+1)) :
 Calls Tryz.prog 148 #[.agg #[.pointer (some ⟨p,0,none⟩)],.bool b] w fun r w'=>r=.returned (.bool b)∧bj (dW p) w O (cQ s.2 s.1 b) m w':=by
 obtain ⟨g,rfl,hw,hl⟩:=hA;have hK:ab [] w (w.alloc (.cells #[.pointer (some ⟨p,0,none⟩)] 171)):=(ab.refl _ _).alloc _;have hw1:=Wr.kept hK hw (by simp) (by simp);have HW:=aa hw1;clear hw hw1;go_enter Tryz.func148,Tryz.ntmps148;go_wp2_with fail
 refine (oR _ p g s.1 s.2 b HW.out (by omega)).mono ?_;rintro _ w1 hW;have hr:=hW.1;subst hr;have H1:=aa (dD (m:=m) hK hW (by have:=oE s.2 s.1 b;omega));clear hW;go_wp2_with fail
 go_ret
 exact ⟨rfl,H1.out⟩
theorem ox (e:Int) (l:List Int) (x:Int):(ex e l x).1.length≤l.length+8:=by
 unfold ex;split
 ·simp[bp]
 ·simp
theorem ux (p:Nat) (w:World) (O:List Nat) (s:List Int × Int) (m:Nat) (x:Int) (hA:dW p w O s (m+1)) :
 Calls Tryz.prog 149 #[.agg #[.pointer (some ⟨p,0,none⟩)],.int .u64 x] w fun r w'=>r=.returned (.int .u64 x)∧bj (dW p) w O (ex s.2 s.1 x) m w':=by
 obtain ⟨g,rfl,hw,hl⟩:=hA;have hK:ab [] w (w.alloc (.cells #[.pointer (some ⟨p,0,none⟩)] 171)):=(ab.refl _ _).alloc _;have hw1:=Wr.kept hK hw (by simp) (by simp);have HW:=aa hw1;clear hw hw1;go_enter Tryz.func149,Tryz.ntmps149;go_wp2_with fail
 refine (nY _ p g s.1 s.2 x HW.out (by omega)).mono ?_;rintro _ w1 hW;have hr:=hW.1;subst hr;have H1:=aa (dD (m:=m) hK hW (by have:=ox s.2 s.1 x;omega));clear hW;go_wp2_with fail
 go_ret
 exact ⟨rfl,H1.out⟩
theorem aC (p:Nat):bz (rV p) bP (dW p) where
 e0:=fun _ _=>by kernel_rfl
 e1:=fun _ _=>by kernel_rfl
 e2:=fun _ _=>by kernel_rfl
 e3:=fun _ _=>by kernel_rfl
 e4:=fun _ _=>by kernel_rfl
 kept:=fun ⟨g,e,hw,hl⟩ hk hT=>⟨g,e,Wr.kept hk hw (fun hm=>hT p hm (by rw [e];exact List.mem_cons_self ..)) (fun k hg hm=>hT k hm (by rw [e,hg];simp)),hl⟩
 lt:=fun ⟨g,e,hw,_⟩ k hk=>by
  rw [e] at hk;rcases List.mem_cons.1 hk with h | h
  ·rw [h];exact hw.lt.1
  ·exact hw.lt.2 k (by simpa using h)
 le:=fun ⟨g,e,hw,hl⟩ hm=>⟨g,e,hw,by omega⟩
 num:=fun w O s m n hA=>qU p w O s m n hA
 upTo:=fun w O s m n t hA=>tc p w O s m n t hA
 text:=fun w O s m l hA hx=>tL p w O s m l hA hx
 flag:=fun w O s m b hA=>uN p w O s m b hA
 word:=fun w O s m x hA=>ux p w O s m x hA
 bd:=fun n t _ h0 h1=>by
  unfold bP;simp only
  split
  ·exact ⟨Int.le_refl _,h1⟩
  ·rename_i h;exact ⟨h0,by show n≤t;omega⟩
def rq (l:List Int):List UInt8:=l.map fun n=>UInt8.ofNat n.toNat
theorem sc (l:List Int):jz l=ac (rq l):=rfl
def bI:PH (List Int × Int) where
 num s _:=((an s.2 s.1).2.1,((an s.2 s.1).2.2,(an s.2 s.1).1))
 upTo s _ t:=if t < (an s.2 s.1).2.1 then (0,([],cf (an s.2 s.1).1)) else ((an s.2 s.1).2.1,((an s.2 s.1).2.2,(an s.2 s.1).1))
 text s _:=(rq (aA s.2 255 s.1).2.1,((aA s.2 255 s.1).2.2,(aA s.2 255 s.1).1))
 flag s _:=((aZ s.2 s.1).2.1,((aZ s.2 s.1).2.2,(aZ s.2 s.1).1))
 word s _:=((aV s.2 s.1).2.1,((aV s.2 s.1).2.2,(aV s.2 s.1).1))
def lo (p:Nat) (F:List Nat) (w:World) (O:List Nat) (s:List Int × Int) (_:Nat):Prop:=O=p :: F∧Rd w p F s.1 s.2∧∀ k∈F,k < w.heap.size
def oB (p:Nat):da:=⟨187,188,189,190,191,.agg #[.pointer (some ⟨p,0,none⟩)]⟩
theorem fy {w wa w':World}{p:Nat}{F:List Nat}{s:List Int × Int}{m:Nat}(hk:ab [] w wa) (hR:Rd w' p F s.1 s.2) (hk':ab [p] wa w') (hF:∀ k∈F,k < w.heap.size):bj (lo p F) w (p :: F) s m w' :=
 ⟨p :: F,⟨rfl,hR,fun k hm=>Nat.lt_of_lt_of_le (hF k hm) (Nat.le_trans hk.size hk'.size)⟩,(hk.mono (by simp)).trans hk' (by simp),fun _ hm=>.inl hm⟩
theorem kx {e:Int}{l:List Int}(ho:bh l):0≤(an e l).2.1:=by
 unfold an;split
 ·rcases gE 6 0 0 l with ⟨h1,k,h⟩ | ⟨_,h⟩
  ·have h3:cn l=(0,(cn l).2.1,(cn l).2.2):=by rw [← h1];rfl
   exact (i2 _ _ _ ho h3).1
  ·show 0≤(ga 6 0 0 l).2.1;rw [h];exact Int.le_refl _
 ·exact Int.le_refl _
theorem vE (p:Nat) (F:List Nat) (w:World) (O:List Nat) (s:List Int × Int) (m:Nat) (n:Int) (hA:lo p F w O s (m+1)) :
 Calls Tryz.prog 187 #[.agg #[.pointer (some ⟨p,0,none⟩)],.int .i64 n] w fun r w'=>r=.returned (.int .i64 (an s.2 s.1).2.1)∧bj (lo p F) w O ((an s.2 s.1).2.2,(an s.2 s.1).1) m w':=by
 obtain ⟨rfl,hR,hF⟩:=hA;have hK:ab [] w (w.alloc (.cells #[.pointer (some ⟨p,0,none⟩)] 187)):=(ab.refl _ _).alloc _;have hR1:=Rd.kept hK hR (by simp) (by simp);have HR:=aa hR1;have HF:=aa hF;clear hR hR1 hF;go_enter Tryz.func187,Tryz.ntmps187;go_wp2_with fail
 refine (cu _ p F s.1 s.2 HR.out).mono ?_;rintro _ w1 ⟨rfl,h1,h2⟩;have H1:=aa (fy (m:=m) (s:=((an s.2 s.1).2.2,(an s.2 s.1).1)) hK h1 h2 HF.out);clear h1 h2;go_wp2_with fail
 go_ret
 exact ⟨rfl,H1.out⟩
theorem tx (p:Nat) (F:List Nat) (w:World) (O:List Nat) (s:List Int × Int) (m:Nat) (b:Bool) (hA:lo p F w O s (m+1)) :
 Calls Tryz.prog 190 #[.agg #[.pointer (some ⟨p,0,none⟩)],.bool b] w fun r w'=>r=.returned (.bool (aZ s.2 s.1).2.1)∧bj (lo p F) w O ((aZ s.2 s.1).2.2,(aZ s.2 s.1).1) m w':=by
 obtain ⟨rfl,hR,hF⟩:=hA;have hK:ab [] w (w.alloc (.cells #[.pointer (some ⟨p,0,none⟩)] 187)):=(ab.refl _ _).alloc _;have hR1:=Rd.kept hK hR (by simp) (by simp);have HR:=aa hR1;have HF:=aa hF;clear hR hR1 hF;go_enter Tryz.func190,Tryz.ntmps190;go_wp2_with fail
 refine (oM _ p F s.1 s.2 HR.out).mono ?_;rintro _ w1 ⟨rfl,h1,h2⟩;have H1:=aa (fy (m:=m) (s:=((aZ s.2 s.1).2.2,(aZ s.2 s.1).1)) hK h1 h2 HF.out);clear h1 h2;go_wp2_with fail
 go_ret
 exact ⟨rfl,H1.out⟩
theorem ta (p:Nat) (F:List Nat) (w:World) (O:List Nat) (s:List Int × Int) (m:Nat) (x:Int) (hA:lo p F w O s (m+1)) :
 Calls Tryz.prog 191 #[.agg #[.pointer (some ⟨p,0,none⟩)],.int .u64 x] w fun r w'=>r=.returned (.int .u64 (aV s.2 s.1).2.1)∧bj (lo p F) w O ((aV s.2 s.1).2.2,(aV s.2 s.1).1) m w':=by
 obtain ⟨rfl,hR,hF⟩:=hA;have hK:ab [] w (w.alloc (.cells #[.pointer (some ⟨p,0,none⟩)] 187)):=(ab.refl _ _).alloc _;have hR1:=Rd.kept hK hR (by simp) (by simp);have HR:=aa hR1;have HF:=aa hF;clear hR hR1 hF;go_enter Tryz.func191,Tryz.ntmps191;go_wp2_with fail
 refine (nU _ p F s.1 s.2 HR.out).mono ?_;rintro _ w1 ⟨rfl,h1,h2⟩;have H1:=aa (fy (m:=m) (s:=((aV s.2 s.1).2.2,(aV s.2 s.1).1)) hK h1 h2 HF.out);clear h1 h2;go_wp2_with fail
 go_ret
 exact ⟨rfl,H1.out⟩
theorem uu (p:Nat) (F:List Nat) (w:World) (O:List Nat) (s:List Int × Int) (m:Nat) (l:List UInt8) (hA:lo p F w O s (m+1)) :
 Calls Tryz.prog 189 #[.agg #[.pointer (some ⟨p,0,none⟩)],.string (ac l)] w fun r w'=>r=.returned (.string (ac (rq (aA s.2 255 s.1).2.1)))∧bj (lo p F) w O ((aA s.2 255 s.1).2.2,(aA s.2 255 s.1).1) m w':=by
 obtain ⟨rfl,hR,hF⟩:=hA;have hK:ab [] w (w.alloc (.cells #[.pointer (some ⟨p,0,none⟩)] 187)):=(ab.refl _ _).alloc _;have hR1:=Rd.kept hK hR (by simp) (by simp);have HR:=aa hR1;have HF:=aa hF;clear hR hR1 hF;go_enter Tryz.func189,Tryz.ntmps189;go_wp2_with fail
 refine (qs _ p F s.1 s.2 255 HR.out).mono ?_;rintro _ w1 ⟨rfl,h1,h2⟩;have H1:=aa (fy (m:=m) (s:=((aA s.2 255 s.1).2.2,(aA s.2 255 s.1).1)) hK h1 h2 HF.out);clear h1 h2;go_wp2_with fail
 go_ret
 exact ⟨rfl,H1.out⟩
theorem uf (p:Nat) (F:List Nat) (w:World) (O:List Nat) (s:List Int × Int) (m:Nat) (n t:Int) (hA:lo p F w O s (m+1)) :
 Calls Tryz.prog 188 #[.agg #[.pointer (some ⟨p,0,none⟩)],.int .i64 n,.int .i64 t] w fun r w'=>r=.returned (.int .i64 (bI.upTo s n t).1)∧bj (lo p F) w O (bI.upTo s n t).2 m w':=by
 obtain ⟨rfl,hR,hF⟩:=hA;have hK:ab [] w (w.alloc (.cells #[.pointer (some ⟨p,0,none⟩)] 187)):=(ab.refl _ _).alloc _;have hR1:=Rd.kept hK hR (by simp) (by simp);have HR:=aa hR1;have HF:=aa hF;have hlt:=hR.lt;have hpF:w.heap.size≠p:=by omega
 have cN:=cu _ p F s.1 s.2 HR.out;have HU:Hid (bI.upTo s n t=if t < (an s.2 s.1).2.1 then (0,([],cf (an s.2 s.1).1)) else ((an s.2 s.1).2.1,((an s.2 s.1).2.2,(an s.2 s.1).1))):=rfl;generalize an s.2 s.1=q at cN HU;obtain ⟨e1,x,rest⟩:=q;simp only at cN HU;clear hR hR1 hF;by_cases h:t < x
 ·have HQ:Hid (bI.upTo s n t=(0,([],cf e1))):=by show _=_;rw [HU.out,if_pos h]
  go_enter Tryz.func188,Tryz.ntmps188;(go_wp2_with fail);refine cN.mono ?_;rintro _ w1 ⟨rfl,h1,h2⟩;have H1:=aa h1;have H2:=aa h2;have hc1:w1.cell? ⟨w.heap.size,0,none⟩=some (.pointer (some ⟨p,0,none⟩)):=h2.cell (by simp [World.cell?_alloc_new]) (by simpa using hpF);clear h1 h2;(go_wp2_with fail);refine (gw _ p F rest e1 H1.out).mono ?_;rintro _ w2 ⟨rfl,h3,h4⟩;have H3:=aa (fy (m:=m) (s:=([],cf e1)) hK h3 (H2.out.trans h4 (by simp)) HF.out);clear h3 h4;(go_wp2_with fail);go_ret
  rw [HQ.out];exact ⟨rfl,H3.out⟩
 ·have HQ:Hid (bI.upTo s n t=(x,(rest,e1))):=by show _=_;rw [HU.out,if_neg h]
  have hb:decide (t < x)=false:=by simp;omega
  go_enter Tryz.func188,Tryz.ntmps188;(go_wp2_with fail);refine cN.mono ?_;rintro _ w1 ⟨rfl,h1,h2⟩;have H1:=aa (fy (m:=m) (s:=(rest,e1)) hK h1 h2 HF.out);clear h1 h2;(go_wp2_with fail);go_ret
  rw [HQ.out];exact ⟨rfl,H1.out⟩
theorem bZ (p:Nat) (F:List Nat):bz (oB p) bI (lo p F) where
 e0:=fun _ _=>by kernel_rfl
 e1:=fun _ _=>by kernel_rfl
 e2:=fun _ _=>by kernel_rfl
 e3:=fun _ _=>by kernel_rfl
 e4:=fun _ _=>by kernel_rfl
 kept:=fun ⟨e,hR,hF⟩ hk hT=>⟨e,Rd.kept hk hR (fun hm=>hT p hm (by rw [e];exact List.mem_cons_self ..)) (fun k hf hm=>hT k hm (by rw [e];exact List.mem_cons_of_mem _ hf)),fun k hf=>Nat.lt_of_lt_of_le (hF k hf) hk.size⟩
 lt:=fun ⟨e,hR,hF⟩ k hk=>by
  rw [e] at hk;rcases List.mem_cons.1 hk with h | h
  ·rw [h];exact hR.lt
  ·exact hF k h
 le:=fun h _=>h
 num:=fun w O s m n hA=>vE p F w O s m n hA
 upTo:=fun w O s m n t hA=>uf p F w O s m n t hA
 text:=fun w O s m l hA _=>uu p F w O s m l hA
 flag:=fun w O s m b hA=>tx p F w O s m b hA
 word:=fun w O s m x hA=>ta p F w O s m x hA
 bd:=fun n t ⟨_,hR,_⟩ _ h1=>by
  obtain ⟨_,_,_,_,_,_,ho,_⟩:=hR;have hz:=fun e=>kx (e:=e) ho;unfold bI;simp only
  split
  ·exact ⟨Int.le_refl _,h1⟩
  ·rename_i h;exact ⟨hz _,by show (an _ _).2.1≤t;omega⟩
end Go.Proofs.YtakafmejllilnaaGreat
