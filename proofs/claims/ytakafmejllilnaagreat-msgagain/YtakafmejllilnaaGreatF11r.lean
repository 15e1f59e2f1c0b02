/-
  Texts laid as one.
-/
import Derived.Test.YtakafmejllilnaaGreatF7r
import Derived.Test.YtakafmejllilnaaGreatF3r
import Derived.Test.YtakafmejllilnaaGreatF4r
import Derived.Test.YtakafmejllilnaaGreatF5r
set_option maxHeartbeats 1000000
/-
 The hand that writes.
-/
namespace Go.Proofs.YtakafmejllilnaaGreat
open Go.RowKit
def bS:PH (List Int × Int) where
 num s n:=(n,dU s.2 s.1 n)
 upTo s n t:=if t < n then (0,bh s.2) else (n,dU s.2 s.1 n)
 text s l:=(l,if 255 < l.length then bI (bh s.2).2 (bh s.2).1 (dD (ae l)) else bI s.2 s.1 (dD (ae l)))
 flag s b:=(b,dc s.2 s.1 b)
 word s x:=(x,eE s.2 s.1 x)
def ei (p:Nat) (w:World) (O:List Nat) (s:List Int × Int) (m:Nat):Prop:=∃ g:Option Nat,O=p :: g.toList∧Wr w p g s.1 s.2∧s.1.length+300*m≤1000000000
def si (p:Nat):df:=⟨145,146,147,148,149,.agg #[.pointer (some ⟨p,0,none⟩)]⟩
theorem cg.trans {σ:Type}{At:World→List Nat→σ→Nat→Prop}{w w1 w2:World}{O O1:List Nat}{s:σ}{m:Nat}(k1:ab O w w1) (n1:∀ k∈O1,k∈O∨w.heap.size≤k) (h:cg At w1 O1 s m w2):cg At w O s m w2:=by
 obtain ⟨O2,h1,h2,h3⟩:=h;refine ⟨O2,h1,k1.trans h2 n1,fun k hk=>?_⟩;rcases h3 k hk with h4 | h4
 ·exact n1 k h4
 ·exact .inr (Nat.le_trans k1.size h4)
theorem dF {w wa w':World}{p:Nat}{g:Option Nat}{q:List Int × Int}{r:Ending}{m:Nat}(hk:ab [] w wa) (h:bU wa p g q r w') (hl:q.1.length+300*m≤1000000000):cg (ei p) w (p :: g.toList) q m w':=by
 obtain ⟨_,g',h2,h3,h4⟩:=h;refine ⟨p :: g'.toList,⟨g',rfl,h2,hl⟩,(hk.mono (by simp)).trans h4 (fun i hi=>.inl hi),fun k hk'=>?_⟩;rcases List.mem_cons.1 hk' with h5 | h5
 ·exact .inl (by rw [h5];exact List.mem_cons_self ..)
 ·rcases h3 k (by simpa using h5) with h6 | h6
  ·exact .inl (List.mem_cons_of_mem _ (by simpa using h6))
  ·exact .inr (Nat.le_trans hk.size h6)
theorem lT (e:Int) (l:List Int) (n:Int):(dU e l n).1.length≤l.length+6:=by
 unfold dU;split
 ·split
  ·have:=dO 5 n;simp [ap];omega
  ·simp
 ·simp
theorem p1 (e:Int) (l m:List Int) (h:m.length≤255):(bI e l m).1.length≤l.length+261:=by
 unfold bI;split
 ·split
  ·have:=dO 5 (m.length:Int);simp [ap];omega
  ·simp
 ·simp
theorem eA (e:Int):(bh e).1=[]∧(bh e).2≠0:=by
 unfold bh;split
 ·simp
 ·rename_i h;exact ⟨rfl,h⟩
theorem i5 {e:Int}(he:e≠0) (l m:List Int):bI e l m=([],e):=by unfold bI;rw [if_neg he]
theorem mr (l:List UInt8):(dD (ae l)).length=l.length:=by rw [fL,dr]
theorem sE (p:Nat) (w:World) (O:List Nat) (s:List Int × Int) (m:Nat) (n:Int) (hA:ei p w O s (m+1)) :
 Calls Tryz.prog 145 #[.agg #[.pointer (some ⟨p,0,none⟩)],.int .i64 n] w fun r w'=>r=.returned (.int .i64 n)∧cg (ei p) w O (dU s.2 s.1 n) m w':=by
 obtain ⟨g,rfl,hw,hl⟩:=hA;have hK:ab [] w (w.alloc (.cells #[.pointer (some ⟨p,0,none⟩)] 171)):=(ab.refl _ _).alloc _;have hw1:=Wr.kept hK hw (by simp) (by simp);have HW:=aa hw1;clear hw hw1;go_enter Tryz.func145,Tryz.ntmps145;go_wp2_with fail
 refine (lq _ p g s.1 s.2 n HW.out (by omega)).mono ?_;rintro _ w1 hW;have hr:=hW.1;subst hr;have H1:=aa (dF (m:=m) hK hW (by have:=lT s.2 s.1 n;omega));clear hW;go_wp2_with fail
 go_ret
 exact ⟨rfl,H1.out⟩
theorem uZ (p:Nat) (w:World) (O:List Nat) (s:List Int × Int) (m:Nat) (n t:Int) (hA:ei p w O s (m+1)) :
 Calls Tryz.prog 146 #[.agg #[.pointer (some ⟨p,0,none⟩)],.int .i64 n,.int .i64 t] w fun r w'=>r=.returned (.int .i64 (bS.upTo s n t).1)∧cg (ei p) w O (bS.upTo s n t).2 m w':=by
 by_cases h:t < n
 ·have HQ:Hid (bS.upTo s n t=(0,bh s.2)):=by show (if t < n then _ else _)=_;rw [if_pos h]
  obtain ⟨g,rfl,hw,hl⟩:=hA;have hK:ab [] w (w.alloc (.cells #[.pointer (some ⟨p,0,none⟩)] 171)):=(ab.refl _ _).alloc _;have hw1:=Wr.kept hK hw (by simp) (by simp);have HW:=aa hw1;clear hw hw1;go_enter Tryz.func146,Tryz.ntmps146;(go_wp2_with fail);refine (eO _ p g s.1 s.2 HW.out).mono ?_;rintro _ w1 hW;have hr:=hW.1;subst hr;have H1:=aa (dF (m:=m) hK hW (by rw [(eA s.2).1];simp;omega));clear hW;(go_wp2_with fail);go_ret
  rw [HQ.out];exact ⟨rfl,H1.out⟩
 ·have HQ:Hid (bS.upTo s n t=(n,dU s.2 s.1 n)):=by show (if t < n then _ else _)=_;rw [if_neg h]
  have hb:decide (t < n)=false:=by simp;omega
  have hb2:decide (n > t)=false:=by simp;omega
  have hK:ab [] w (w.alloc (.cells #[.pointer (some ⟨p,0,none⟩)] 171)):=(ab.refl _ _).alloc _
  have hA1:ei p (w.alloc (.cells #[.pointer (some ⟨p,0,none⟩)] 171)) O s (m+1):=by
   obtain ⟨g,e,hw,hl⟩:=hA;exact ⟨g,e,Wr.kept hK hw (by simp) (by simp),hl⟩
  have cN:=sE p _ O s m n hA1;clear hA hA1;go_enter Tryz.func146,Tryz.ntmps146;(go_wp2_with fail);refine cN.mono ?_;rintro _ w1 ⟨rfl,hW⟩;have H1:=aa (cg.trans (hK.mono (by simp)) (fun k hk=>.inl hk) hW);clear hW;(go_wp2_with fail);go_ret
  rw [HQ.out];exact ⟨rfl,H1.out⟩
set_option maxRecDepth 100000 in
theorem tI (p:Nat) (w:World) (O:List Nat) (s:List Int × Int) (m:Nat) (l:List UInt8) (hA:ei p w O s (m+1)) (hx:l.length≤140737488351232) :
 Calls Tryz.prog 147 #[.agg #[.pointer (some ⟨p,0,none⟩)],.string (ae l)] w fun r w'=>r=.returned (.string (ae (bS.text s l).1))∧cg (ei p) w O (bS.text s l).2 m w':=by
 have hsz:(ae l).size=l.length:=dr l;have HSZ:=aa hsz;have HX:=aa hx;by_cases h:255 < l.length
 ·have HQ:Hid (bS.text s l=(l,bI (bh s.2).2 (bh s.2).1 (dD (ae l)))):=by show (l,if 255 < l.length then _ else _)=_;rw [if_pos h]
  have hb:decide (((ae l).size:Int) > 255)=true:=by simp;omega
  have hb2:decide ((255:Int) < ((ae l).size:Int))=true:=by simp;omega
  clear hsz hx h;obtain ⟨g,rfl,hw,hl⟩:=hA;have HLW:=aa hw.lt;have hK:ab [] w (w.alloc (.cells #[.pointer (some ⟨p,0,none⟩)] 171)):=(ab.refl _ _).alloc _;have hw1:=Wr.kept hK hw (by simp) (by simp);have HW:=aa hw1;clear hw hw1;go_enter Tryz.func147,Tryz.ntmps147;(go_wp2_with fail);refine (eO _ p g s.1 s.2 HW.out).mono ?_;rintro _ w1 hW;have hr:=hW.1;subst hr;obtain ⟨O1,⟨g1,rfl,hw1,hl1⟩,hk1,hn1⟩:=dF (m:=m) hK hW (by rw [(eA s.2).1];simp;omega)
  have hc1:w1.cell? ⟨w.heap.size,0,none⟩=some (.pointer (some ⟨p,0,none⟩)):=by
   obtain ⟨_,_,_,_,hk⟩:=hW;refine hk.cell (by simp [World.cell?_alloc_new]) (fun hm=>?_);rcases List.mem_cons.1 hm with h9 | h9
   ·have:=HLW.out.1;simp at h9;omega
   ·have:=HLW.out.2 _ (by simpa using h9);simp at this
  have HW1:=aa hw1;clear hW hw1;(go_wp2_with fail);refine (kl _ p g1 _ _ (ae l) HW1.out (by rw [HSZ.out];have:=HX.out;omega) (by omega)).mono ?_;rintro _ w2 hW2;have hr:=hW2.1;subst hr;have H2:=aa (cg.trans hk1 hn1 (dF (m:=m) (ab.refl [] w1) hW2 (by rw [i5 (eA s.2).2];simp;omega)));clear hW2;(go_wp2_with fail);go_ret
  rw [HQ.out];exact ⟨rfl,H2.out⟩
 ·have HQ:Hid (bS.text s l=(l,bI s.2 s.1 (dD (ae l)))):=by show (l,if 255 < l.length then _ else _)=_;rw [if_neg h]
  have hb:decide (((ae l).size:Int) > 255)=false:=by simp;omega
  have hb2:decide ((255:Int) < ((ae l).size:Int))=false:=by simp;omega
  have H255:Hid (l.length≤255):=by show l.length≤255;omega
  clear hsz hx h;obtain ⟨g,rfl,hw,hl⟩:=hA;have hK:ab [] w (w.alloc (.cells #[.pointer (some ⟨p,0,none⟩)] 171)):=(ab.refl _ _).alloc _;have hw1:=Wr.kept hK hw (by simp) (by simp);have HW:=aa hw1;clear hw hw1;go_enter Tryz.func147,Tryz.ntmps147;(go_wp2_with fail);refine (kl _ p g s.1 s.2 (ae l) HW.out (by rw [HSZ.out];have:=HX.out;omega) (by omega)).mono ?_;rintro _ w1 hW;have hr:=hW.1;subst hr;have H1:=aa (dF (m:=m) hK hW (by have:=p1 s.2 s.1 (dD (ae l)) (by rw [mr];exact H255.out);omega));clear hW;(go_wp2_with fail);go_ret
  rw [HQ.out];exact ⟨rfl,H1.out⟩
theorem oR (e:Int) (l:List Int) (b:Bool):(dc e l b).1.length≤l.length+8:=by
 unfold dc;split
 ·simp
 ·simp
theorem tO (p:Nat) (w:World) (O:List Nat) (s:List Int × Int) (m:Nat) (b:Bool) (hA:ei p w O s (m+1)) :
 Calls Tryz.prog 148 #[.agg #[.pointer (some ⟨p,0,none⟩)],.bool b] w fun r w'=>r=.returned (.bool b)∧cg (ei p) w O (dc s.2 s.1 b) m w':=by
 obtain ⟨g,rfl,hw,hl⟩:=hA;have hK:ab [] w (w.alloc (.cells #[.pointer (some ⟨p,0,none⟩)] 171)):=(ab.refl _ _).alloc _;have hw1:=Wr.kept hK hw (by simp) (by simp);have HW:=aa hw1;clear hw hw1;go_enter Tryz.func148,Tryz.ntmps148;go_wp2_with fail
 refine (oJ _ p g s.1 s.2 b HW.out (by omega)).mono ?_;rintro _ w1 hW;have hr:=hW.1;subst hr;have H1:=aa (dF (m:=m) hK hW (by have:=oR s.2 s.1 b;omega));clear hW;go_wp2_with fail
 go_ret
 exact ⟨rfl,H1.out⟩
theorem oV (e:Int) (l:List Int) (x:Int):(eE e l x).1.length≤l.length+8:=by
 unfold eE;split
 ·simp[a5]
 ·simp
theorem tf (p:Nat) (w:World) (O:List Nat) (s:List Int × Int) (m:Nat) (x:Int) (hA:ei p w O s (m+1)) :
 Calls Tryz.prog 149 #[.agg #[.pointer (some ⟨p,0,none⟩)],.int .u64 x] w fun r w'=>r=.returned (.int .u64 x)∧cg (ei p) w O (eE s.2 s.1 x) m w':=by
 obtain ⟨g,rfl,hw,hl⟩:=hA;have hK:ab [] w (w.alloc (.cells #[.pointer (some ⟨p,0,none⟩)] 171)):=(ab.refl _ _).alloc _;have hw1:=Wr.kept hK hw (by simp) (by simp);have HW:=aa hw1;clear hw hw1;go_enter Tryz.func149,Tryz.ntmps149;go_wp2_with fail
 refine (oN _ p g s.1 s.2 x HW.out (by omega)).mono ?_;rintro _ w1 hW;have hr:=hW.1;subst hr;have H1:=aa (dF (m:=m) hK hW (by have:=oV s.2 s.1 x;omega));clear hW;go_wp2_with fail
 go_ret
 exact ⟨rfl,H1.out⟩
theorem aI (p:Nat):bH (si p) bS (ei p) where
 e0:=fun _ _=>by kernel_rfl
 e1:=fun _ _=>by kernel_rfl
 e2:=fun _ _=>by kernel_rfl
 e3:=fun _ _=>by kernel_rfl
 e4:=fun _ _=>by kernel_rfl
 kept:=fun ⟨g,e,hw,hl⟩ hk hT=>⟨g,e,Wr.kept hk hw (fun hm=>hT p hm (by rw [e];exact List.mem_cons_self ..)) (fun k hg hm=>hT k hm (by rw [e,hg];simp)),hl⟩
 lt:=fun ⟨g,e,hw,_⟩ k hk=>by
  rw [e] at hk;rcases List.mem_cons.1 hk with h | h
  ·rw [h];exact hw.lt.1
  ·exact hw.lt.2 k (by simpa using h)
 le:=fun ⟨g,e,hw,hl⟩ hm=>⟨g,e,hw,by omega⟩
 num:=fun w O s m n hA=>sE p w O s m n hA
 upTo:=fun w O s m n t hA=>uZ p w O s m n t hA
 text:=fun w O s m l hA hx=>tI p w O s m l hA hx
 flag:=fun w O s m b hA=>tO p w O s m b hA
 word:=fun w O s m x hA=>tf p w O s m x hA
 bd:=fun n t _ h0 h1=>by
  unfold bS;simp only
  split
  ·exact ⟨Int.le_refl _,h1⟩
  ·rename_i h;exact ⟨h0,by show n≤t;omega⟩
def rN (l:List Int):List UInt8:=l.map fun n=>UInt8.ofNat n.toNat
theorem rA (l:List Int):jt l=ae (rN l):=rfl
def ag:PH (List Int × Int) where
 num s _:=((an s.2 s.1).2.1,((an s.2 s.1).2.2,(an s.2 s.1).1))
 upTo s _ t:=if t < (an s.2 s.1).2.1 then (0,([],aO (an s.2 s.1).1)) else ((an s.2 s.1).2.1,((an s.2 s.1).2.2,(an s.2 s.1).1))
 text s _:=(rN (av s.2 255 s.1).2.1,((av s.2 255 s.1).2.2,(av s.2 255 s.1).1))
 flag s _:=((aM s.2 s.1).2.1,((aM s.2 s.1).2.2,(aM s.2 s.1).1))
 word s _:=((aN s.2 s.1).2.1,((aN s.2 s.1).2.2,(aN s.2 s.1).1))
def lS (p:Nat) (F:List Nat) (w:World) (O:List Nat) (s:List Int × Int) (_:Nat):Prop:=O=p :: F∧Rd w p F s.1 s.2∧∀ k∈F,k < w.heap.size
def ou (p:Nat):df:=⟨187,188,189,190,191,.agg #[.pointer (some ⟨p,0,none⟩)]⟩
theorem ft {w wa w':World}{p:Nat}{F:List Nat}{s:List Int × Int}{m:Nat}(hk:ab [] w wa) (hR:Rd w' p F s.1 s.2) (hk':ab [p] wa w') (hF:∀ k∈F,k < w.heap.size):cg (lS p F) w (p :: F) s m w' :=
 ⟨p :: F,⟨rfl,hR,fun k hm=>Nat.lt_of_lt_of_le (hF k hm) (Nat.le_trans hk.size hk'.size)⟩,(hk.mono (by simp)).trans hk' (by simp),fun _ hm=>.inl hm⟩
theorem dl {e:Int}{l:List Int}(ho:bi l):0≤(an e l).2.1:=by
 unfold an;split
 ·rcases en 6 0 0 l with ⟨h1,k,h⟩ | ⟨_,h⟩
  ·have h3:bm l=(0,(bm l).2.1,(bm l).2.2):=by rw [← h1];rfl
   exact (fw _ _ _ ho h3).1
  ·show 0≤(fq 6 0 0 l).2.1;rw [h];exact Int.le_refl _
 ·exact Int.le_refl _
theorem vw (p:Nat) (F:List Nat) (w:World) (O:List Nat) (s:List Int × Int) (m:Nat) (n:Int) (hA:lS p F w O s (m+1)) :
 Calls Tryz.prog 187 #[.agg #[.pointer (some ⟨p,0,none⟩)],.int .i64 n] w fun r w'=>r=.returned (.int .i64 (an s.2 s.1).2.1)∧cg (lS p F) w O ((an s.2 s.1).2.2,(an s.2 s.1).1) m w':=by
 obtain ⟨rfl,hR,hF⟩:=hA;have hK:ab [] w (w.alloc (.cells #[.pointer (some ⟨p,0,none⟩)] 187)):=(ab.refl _ _).alloc _;have hR1:=Rd.kept hK hR (by simp) (by simp);have HR:=aa hR1;have HF:=aa hF;clear hR hR1 hF;go_enter Tryz.func187,Tryz.ntmps187;go_wp2_with fail
 refine (cz _ p F s.1 s.2 HR.out).mono ?_;rintro _ w1 ⟨rfl,h1,h2⟩;have H1:=aa (ft (m:=m) (s:=((an s.2 s.1).2.2,(an s.2 s.1).1)) hK h1 h2 HF.out);clear h1 h2;go_wp2_with fail
 go_ret
 exact ⟨rfl,H1.out⟩
theorem tT (p:Nat) (F:List Nat) (w:World) (O:List Nat) (s:List Int × Int) (m:Nat) (b:Bool) (hA:lS p F w O s (m+1)) :
 Calls Tryz.prog 190 #[.agg #[.pointer (some ⟨p,0,none⟩)],.bool b] w fun r w'=>r=.returned (.bool (aM s.2 s.1).2.1)∧cg (lS p F) w O ((aM s.2 s.1).2.2,(aM s.2 s.1).1) m w':=by
 obtain ⟨rfl,hR,hF⟩:=hA;have hK:ab [] w (w.alloc (.cells #[.pointer (some ⟨p,0,none⟩)] 187)):=(ab.refl _ _).alloc _;have hR1:=Rd.kept hK hR (by simp) (by simp);have HR:=aa hR1;have HF:=aa hF;clear hR hR1 hF;go_enter Tryz.func190,Tryz.ntmps190;go_wp2_with fail
 refine (oc _ p F s.1 s.2 HR.out).mono ?_;rintro _ w1 ⟨rfl,h1,h2⟩;have H1:=aa (ft (m:=m) (s:=((aM s.2 s.1).2.2,(aM s.2 s.1).1)) hK h1 h2 HF.out);clear h1 h2;go_wp2_with fail
 go_ret
 exact ⟨rfl,H1.out⟩
theorem tw (p:Nat) (F:List Nat) (w:World) (O:List Nat) (s:List Int × Int) (m:Nat) (x:Int) (hA:lS p F w O s (m+1)) :
 Calls Tryz.prog 191 #[.agg #[.pointer (some ⟨p,0,none⟩)],.int .u64 x] w fun r w'=>r=.returned (.int .u64 (aN s.2 s.1).2.1)∧cg (lS p F) w O ((aN s.2 s.1).2.2,(aN s.2 s.1).1) m w':=by
 obtain ⟨rfl,hR,hF⟩:=hA;have hK:ab [] w (w.alloc (.cells #[.pointer (some ⟨p,0,none⟩)] 187)):=(ab.refl _ _).alloc _;have hR1:=Rd.kept hK hR (by simp) (by simp);have HR:=aa hR1;have HF:=aa hF;clear hR hR1 hF;go_enter Tryz.func191,Tryz.ntmps191;go_wp2_with fail
 refine (oO _ p F s.1 s.2 HR.out).mono ?_;rintro _ w1 ⟨rfl,h1,h2⟩;have H1:=aa (ft (m:=m) (s:=((aN s.2 s.1).2.2,(aN s.2 s.1).1)) hK h1 h2 HF.out);clear h1 h2;go_wp2_with fail
 go_ret
 exact ⟨rfl,H1.out⟩
theorem tg (p:Nat) (F:List Nat) (w:World) (O:List Nat) (s:List Int × Int) (m:Nat) (l:List UInt8) (hA:lS p F w O s (m+1)) :
 Calls Tryz.prog 189 #[.agg #[.pointer (some ⟨p,0,none⟩)],.string (ae l)] w fun r w'=>r=.returned (.string (ae (rN (av s.2 255 s.1).2.1)))∧cg (lS p F) w O ((av s.2 255 s.1).2.2,(av s.2 255 s.1).1) m w':=by
 obtain ⟨rfl,hR,hF⟩:=hA;have hK:ab [] w (w.alloc (.cells #[.pointer (some ⟨p,0,none⟩)] 187)):=(ab.refl _ _).alloc _;have hR1:=Rd.kept hK hR (by simp) (by simp);have HR:=aa hR1;have HF:=aa hF;clear hR hR1 hF;go_enter Tryz.func189,Tryz.ntmps189;go_wp2_with fail
 refine (qD _ p F s.1 s.2 255 HR.out).mono ?_;rintro _ w1 ⟨rfl,h1,h2⟩;have H1:=aa (ft (m:=m) (s:=((av s.2 255 s.1).2.2,(av s.2 255 s.1).1)) hK h1 h2 HF.out);clear h1 h2;go_wp2_with fail
 go_ret
 exact ⟨rfl,H1.out⟩
theorem uU (p:Nat) (F:List Nat) (w:World) (O:List Nat) (s:List Int × Int) (m:Nat) (n t:Int) (hA:lS p F w O s (m+1)) :
 Calls Tryz.prog 188 #[.agg #[.pointer (some ⟨p,0,none⟩)],.int .i64 n,.int .i64 t] w fun r w'=>r=.returned (.int .i64 (ag.upTo s n t).1)∧cg (lS p F) w O (ag.upTo s n t).2 m w':=by
 obtain ⟨rfl,hR,hF⟩:=hA;have hK:ab [] w (w.alloc (.cells #[.pointer (some ⟨p,0,none⟩)] 187)):=(ab.refl _ _).alloc _;have hR1:=Rd.kept hK hR (by simp) (by simp);have HR:=aa hR1;have HF:=aa hF;have hlt:=hR.lt;have hpF:w.heap.size≠p:=by omega
 have cN:=cz _ p F s.1 s.2 HR.out;have HU:Hid (ag.upTo s n t=if t < (an s.2 s.1).2.1 then (0,([],aO (an s.2 s.1).1)) else ((an s.2 s.1).2.1,((an s.2 s.1).2.2,(an s.2 s.1).1))):=rfl;generalize an s.2 s.1=q at cN HU;obtain ⟨e1,x,rest⟩:=q;simp only at cN HU;clear hR hR1 hF;by_cases h:t < x
 ·have HQ:Hid (ag.upTo s n t=(0,([],aO e1))):=by show _=_;rw [HU.out,if_pos h]
  go_enter Tryz.func188,Tryz.ntmps188;(go_wp2_with fail);refine cN.mono ?_;rintro _ w1 ⟨rfl,h1,h2⟩;have H1:=aa h1;have H2:=aa h2;have hc1:w1.cell? ⟨w.heap.size,0,none⟩=some (.pointer (some ⟨p,0,none⟩)):=h2.cell (by simp [World.cell?_alloc_new]) (by simpa using hpF);clear h1 h2;(go_wp2_with fail);refine (gH _ p F rest e1 H1.out).mono ?_;rintro _ w2 ⟨rfl,h3,h4⟩;have H3:=aa (ft (m:=m) (s:=([],aO e1)) hK h3 (H2.out.trans h4 (by simp)) HF.out);clear h3 h4;(go_wp2_with fail);go_ret
  rw [HQ.out];exact ⟨rfl,H3.out⟩
 ·have HQ:Hid (ag.upTo s n t=(x,(rest,e1))):=by show _=_;rw [HU.out,if_neg h]
  have hb:decide (t < x)=false:=by simp;omega
  go_enter Tryz.func188,Tryz.ntmps188;(go_wp2_with fail);refine cN.mono ?_;rintro _ w1 ⟨rfl,h1,h2⟩;have H1:=aa (ft (m:=m) (s:=(rest,e1)) hK h1 h2 HF.out);clear h1 h2;(go_wp2_with fail);go_ret
  rw [HQ.out];exact ⟨rfl,H1.out⟩
theorem ca (p:Nat) (F:List Nat):bH (ou p) ag (lS p F) where
 e0:=fun _ _=>by kernel_rfl
 e1:=fun _ _=>by kernel_rfl
 e2:=fun _ _=>by kernel_rfl
 e3:=fun _ _=>by kernel_rfl
 e4:=fun _ _=>by kernel_rfl
 kept:=fun ⟨e,hR,hF⟩ hk hT=>⟨e,Rd.kept hk hR (fun hm=>hT p hm (by rw [e];exact List.mem_cons_self ..)) (fun k hf hm=>hT k hm (by rw [e];exact List.mem_cons_of_mem _ hf)),fun k hf=>Nat.lt_of_lt_of_le (hF k hf) hk.size⟩
 lt:=fun ⟨e,hR,hF⟩ k hk=>by
  rw [e] at hk;rcases List.mem_cons.1 hk with h | h
  ·rw [h];exact hR.lt
  ·exact hF k h
 le:=fun h _=>h
 num:=fun w O s m n hA=>vw p F w O s m n hA
 upTo:=fun w O s m n t hA=>uU p F w O s m n t hA
 text:=fun w O s m l hA _=>tg p F w O s m l hA
 flag:=fun w O s m b hA=>tT p F w O s m b hA
 word:=fun w O s m x hA=>tw p F w O s m x hA
 bd:=fun n t ⟨_,hR,_⟩ _ h1=>by
  obtain ⟨_,_,_,_,_,_,ho,_⟩:=hR;have hz:=fun e=>dl (e:=e) ho;unfold ag;simp only
  split
  ·exact ⟨Int.le_refl _,h1⟩
  ·rename_i h;exact ⟨hz _,by show (an _ _).2.1≤t;omega⟩
end Go.Proofs.YtakafmejllilnaaGreat
