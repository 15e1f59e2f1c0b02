/-
  Texts of this claim that are laid as one: EnPen, EnEye.
-/
import Derived.Test.YtakafmejllilnaaGreatF7
import Derived.Test.YtakafmejllilnaaGreatF3
import Derived.Test.YtakafmejllilnaaGreatF4
import Derived.Test.YtakafmejllilnaaGreatF5
/-
 The hand that writes.
-/
namespace Go.Proofs.YtakafmejllilnaaGreat
open Go.RowKit
def penP:PH (List Int × Int) where
 num s n:=(n,wrNum s.2 s.1 n)
 upTo s n t:=if t < n then (0,wrRefuse s.2) else (n,wrNum s.2 s.1 n)
 text s l:=(l,if 255 < l.length then wrRun (wrRefuse s.2).2 (wrRefuse s.2).1 (strOf (str l)) else wrRun s.2 s.1 (strOf (str l)))
 flag s b:=(b,wrFlag s.2 s.1 b)
 word s x:=(x,wrWord s.2 s.1 x)
def AtP (p:Nat) (w:World) (O:List Nat) (s:List Int × Int) (m:Nat):Prop:=∃ g:Option Nat,O=p :: g.toList∧Wr w p g s.1 s.2∧s.1.length+300*m≤1000000000
def penH (p:Nat):Hnd:=⟨145,146,147,148,149,.agg #[.pointer (some ⟨p,0,none⟩)]⟩
theorem Went.trans {σ:Type}{At:World→List Nat→σ→Nat→Prop}{w w1 w2:World}{O O1:List Nat}{s:σ}{m:Nat}(k1:Kept O w w1) (n1:∀ k∈O1,k∈O∨w.heap.size≤k) (h:Went At w1 O1 s m w2):Went At w O s m w2:=by
 obtain ⟨O2,h1,h2,h3⟩:=h
 refine ⟨O2,h1,k1.trans h2 n1,fun k hk=>?_⟩
 rcases h3 k hk with h4 | h4
 ·exact n1 k h4
 ·exact .inr (Nat.le_trans k1.size h4)
theorem pen_went {w wa w':World}{p:Nat}{g:Option Nat}{q:List Int × Int}{r:Ending}{m:Nat}(hk:Kept [] w wa) (h:Wrote wa p g q r w') (hl:q.1.length+300*m≤1000000000):Went (AtP p) w (p :: g.toList) q m w':=by
 obtain ⟨_,g',h2,h3,h4⟩:=h
 refine ⟨p :: g'.toList,⟨g',rfl,h2,hl⟩,(hk.mono (by simp)).trans h4 (fun i hi=>.inl hi),fun k hk'=>?_⟩
 rcases List.mem_cons.1 hk' with h5 | h5
 ·exact .inl (by rw [h5];exact List.mem_cons_self ..)
 ·rcases h3 k (by simpa using h5) with h6 | h6
  ·exact .inl (List.mem_cons_of_mem _ (by simpa using h6))
  ·exact .inr (Nat.le_trans hk.size h6)
theorem wrNum_len (e:Int) (l:List Int) (n:Int):(wrNum e l n).1.length≤l.length+6:=by
 unfold wrNum
 split
 ·split
  ·have:=enc_length 5 n;simp [encNum];omega
  ·simp
 ·simp
theorem wrRun_len (e:Int) (l m:List Int) (h:m.length≤255):(wrRun e l m).1.length≤l.length+261:=by
 unfold wrRun
 split
 ·split
  ·have:=enc_length 5 (m.length:Int);simp [encNum];omega
  ·simp
 ·simp
theorem wrRefuse_ne (e:Int):(wrRefuse e).1=[]∧(wrRefuse e).2≠0:=by
 unfold wrRefuse
 split
 ·simp
 ·rename_i h;exact ⟨rfl,h⟩
theorem wrRun_failed {e:Int}(he:e≠0) (l m:List Int):wrRun e l m=([],e):=by unfold wrRun;rw [if_neg he]
theorem len_str (l:List UInt8):(strOf (str l)).length=l.length:=by rw [strOf_length,str_size]
set_option maxHeartbeats 1000000 in
theorem penNum (p:Nat) (w:World) (O:List Nat) (s:List Int × Int) (m:Nat) (n:Int) (hA:AtP p w O s (m+1)) :
 Calls Tryz.prog 145 #[.agg #[.pointer (some ⟨p,0,none⟩)],.int .i64 n] w fun r w'=>r=.returned (.int .i64 n)∧Went (AtP p) w O (wrNum s.2 s.1 n) m w':=by
 obtain ⟨g,rfl,hw,hl⟩:=hA
 have hK:Kept [] w (w.alloc (.cells #[.pointer (some ⟨p,0,none⟩)] 171)):=(Kept.refl _ _).alloc _
 have hw1:=Wr.kept hK hw (by simp) (by simp)
 have HW:=hide hw1
 clear hw hw1
 go_enter Tryz.func145,Tryz.ntmps145
 go_wp2_with fail
 refine (wnum_call _ p g s.1 s.2 n HW.out (by omega)).mono ?_
 rintro _ w1 hW
 have hr:=hW.1
 subst hr
 have H1:=hide (pen_went (m:=m) hK hW (by have:=wrNum_len s.2 s.1 n;omega))
 clear hW
 go_wp2_with fail
 go_ret
 exact ⟨rfl,H1.out⟩
set_option maxHeartbeats 1000000 in
theorem penUpTo (p:Nat) (w:World) (O:List Nat) (s:List Int × Int) (m:Nat) (n t:Int) (hA:AtP p w O s (m+1)) :
 Calls Tryz.prog 146 #[.agg #[.pointer (some ⟨p,0,none⟩)],.int .i64 n,.int .i64 t] w fun r w'=>r=.returned (.int .i64 (penP.upTo s n t).1)∧Went (AtP p) w O (penP.upTo s n t).2 m w':=by
 by_cases h:t < n
 ·have HQ:Hid (penP.upTo s n t=(0,wrRefuse s.2)):=by show (if t < n then _ else _)=_;rw [if_pos h]
  obtain ⟨g,rfl,hw,hl⟩:=hA
  have hK:Kept [] w (w.alloc (.cells #[.pointer (some ⟨p,0,none⟩)] 171)):=(Kept.refl _ _).alloc _
  have hw1:=Wr.kept hK hw (by simp) (by simp)
  have HW:=hide hw1
  clear hw hw1
  go_enter Tryz.func146,Tryz.ntmps146
  go_wp2_with fail
  refine (wrefuse_call _ p g s.1 s.2 HW.out).mono ?_
  rintro _ w1 hW
  have hr:=hW.1
  subst hr
  have H1:=hide (pen_went (m:=m) hK hW (by rw [(wrRefuse_ne s.2).1];simp;omega))
  clear hW
  go_wp2_with fail
  go_ret
  rw [HQ.out]
  exact ⟨rfl,H1.out⟩
 ·have HQ:Hid (penP.upTo s n t=(n,wrNum s.2 s.1 n)):=by show (if t < n then _ else _)=_;rw [if_neg h]
  have hb:decide (t < n)=false:=by simp;omega
  have hb2:decide (n > t)=false:=by simp;omega
  have hK:Kept [] w (w.alloc (.cells #[.pointer (some ⟨p,0,none⟩)] 171)):=(Kept.refl _ _).alloc _
  have hA1:AtP p (w.alloc (.cells #[.pointer (some ⟨p,0,none⟩)] 171)) O s (m+1):=by
   obtain ⟨g,e,hw,hl⟩:=hA
   exact ⟨g,e,Wr.kept hK hw (by simp) (by simp),hl⟩
  have cN:=penNum p _ O s m n hA1
  clear hA hA1
  go_enter Tryz.func146,Tryz.ntmps146
  go_wp2_with fail
  refine cN.mono ?_
  rintro _ w1 ⟨rfl,hW⟩
  have H1:=hide (Went.trans (hK.mono (by simp)) (fun k hk=>.inl hk) hW)
  clear hW
  go_wp2_with fail
  go_ret
  rw [HQ.out]
  exact ⟨rfl,H1.out⟩
set_option maxHeartbeats 1000000 in
set_option maxRecDepth 100000 in
theorem penText (p:Nat) (w:World) (O:List Nat) (s:List Int × Int) (m:Nat) (l:List UInt8) (hA:AtP p w O s (m+1)) (hx:l.length≤140737488351232) :
 Calls Tryz.prog 147 #[.agg #[.pointer (some ⟨p,0,none⟩)],.string (str l)] w fun r w'=>r=.returned (.string (str (penP.text s l).1))∧Went (AtP p) w O (penP.text s l).2 m w':=by
 have hsz:(str l).size=l.length:=str_size l
 have HSZ:=hide hsz
 have HX:=hide hx
 by_cases h:255 < l.length
 ·have HQ:Hid (penP.text s l=(l,wrRun (wrRefuse s.2).2 (wrRefuse s.2).1 (strOf (str l)))):=by show (l,if 255 < l.length then _ else _)=_;rw [if_pos h]
  have hb:decide (((str l).size:Int) > 255)=true:=by simp;omega
  have hb2:decide ((255:Int) < ((str l).size:Int))=true:=by simp;omega
  clear hsz hx h
  obtain ⟨g,rfl,hw,hl⟩:=hA
  have HLW:=hide hw.lt
  have hK:Kept [] w (w.alloc (.cells #[.pointer (some ⟨p,0,none⟩)] 171)):=(Kept.refl _ _).alloc _
  have hw1:=Wr.kept hK hw (by simp) (by simp)
  have HW:=hide hw1
  clear hw hw1
  go_enter Tryz.func147,Tryz.ntmps147
  go_wp2_with fail
  refine (wrefuse_call _ p g s.1 s.2 HW.out).mono ?_
  rintro _ w1 hW
  have hr:=hW.1
  subst hr
  obtain ⟨O1,⟨g1,rfl,hw1,hl1⟩,hk1,hn1⟩:=pen_went (m:=m) hK hW (by rw [(wrRefuse_ne s.2).1];simp;omega)
  have hc1:w1.cell? ⟨w.heap.size,0,none⟩=some (.pointer (some ⟨p,0,none⟩)):=by
   obtain ⟨_,_,_,_,hk⟩:=hW
   refine hk.cell (by simp [World.cell?_alloc_new]) (fun hm=>?_)
   rcases List.mem_cons.1 hm with h9 | h9
   ·have:=HLW.out.1;simp at h9;omega
   ·have:=HLW.out.2 _ (by simpa using h9);simp at this
  have HW1:=hide hw1
  clear hW hw1
  go_wp2_with fail
  refine (wtext_call _ p g1 _ _ (str l) HW1.out (by rw [HSZ.out];have:=HX.out;omega) (by omega)).mono ?_
  rintro _ w2 hW2
  have hr:=hW2.1
  subst hr
  have H2:=hide (Went.trans hk1 hn1 (pen_went (m:=m) (Kept.refl [] w1) hW2 (by rw [wrRun_failed (wrRefuse_ne s.2).2];simp;omega)))
  clear hW2
  go_wp2_with fail
  go_ret
  rw [HQ.out]
  exact ⟨rfl,H2.out⟩
 ·have HQ:Hid (penP.text s l=(l,wrRun s.2 s.1 (strOf (str l)))):=by show (l,if 255 < l.length then _ else _)=_;rw [if_neg h]
  have hb:decide (((str l).size:Int) > 255)=false:=by simp;omega
  have hb2:decide ((255:Int) < ((str l).size:Int))=false:=by simp;omega
  have H255:Hid (l.length≤255):=by show l.length≤255;omega
  clear hsz hx h
  obtain ⟨g,rfl,hw,hl⟩:=hA
  have hK:Kept [] w (w.alloc (.cells #[.pointer (some ⟨p,0,none⟩)] 171)):=(Kept.refl _ _).alloc _
  have hw1:=Wr.kept hK hw (by simp) (by simp)
  have HW:=hide hw1
  clear hw hw1
  go_enter Tryz.func147,Tryz.ntmps147
  go_wp2_with fail
  refine (wtext_call _ p g s.1 s.2 (str l) HW.out (by rw [HSZ.out];have:=HX.out;omega) (by omega)).mono ?_
  rintro _ w1 hW
  have hr:=hW.1
  subst hr
  have H1:=hide (pen_went (m:=m) hK hW (by have:=wrRun_len s.2 s.1 (strOf (str l)) (by rw [len_str];exact H255.out);omega))
  clear hW
  go_wp2_with fail
  go_ret
  rw [HQ.out]
  exact ⟨rfl,H1.out⟩
theorem wrFlag_len (e:Int) (l:List Int) (b:Bool):(wrFlag e l b).1.length≤l.length+8:=by
 unfold wrFlag
 split
 ·simp
 ·simp
set_option maxHeartbeats 1000000 in
theorem penFlag (p:Nat) (w:World) (O:List Nat) (s:List Int × Int) (m:Nat) (b:Bool) (hA:AtP p w O s (m+1)) :
 Calls Tryz.prog 148 #[.agg #[.pointer (some ⟨p,0,none⟩)],.bool b] w fun r w'=>r=.returned (.bool b)∧Went (AtP p) w O (wrFlag s.2 s.1 b) m w':=by
 obtain ⟨g,rfl,hw,hl⟩:=hA
 have hK:Kept [] w (w.alloc (.cells #[.pointer (some ⟨p,0,none⟩)] 171)):=(Kept.refl _ _).alloc _
 have hw1:=Wr.kept hK hw (by simp) (by simp)
 have HW:=hide hw1
 clear hw hw1
 go_enter Tryz.func148,Tryz.ntmps148
 go_wp2_with fail
 refine (wflag_call _ p g s.1 s.2 b HW.out (by omega)).mono ?_
 rintro _ w1 hW
 have hr:=hW.1
 subst hr
 have H1:=hide (pen_went (m:=m) hK hW (by have:=wrFlag_len s.2 s.1 b;omega))
 clear hW
 go_wp2_with fail
 go_ret
 exact ⟨rfl,H1.out⟩
theorem wrWord_len (e:Int) (l:List Int) (x:Int):(wrWord e l x).1.length≤l.length+8:=by
 unfold wrWord
 split
 ·simp[hiB_length]
 ·simp
set_option maxHeartbeats 1000000 in
theorem penWord (p:Nat) (w:World) (O:List Nat) (s:List Int × Int) (m:Nat) (x:Int) (hA:AtP p w O s (m+1)) :
 Calls Tryz.prog 149 #[.agg #[.pointer (some ⟨p,0,none⟩)],.int .u64 x] w fun r w'=>r=.returned (.int .u64 x)∧Went (AtP p) w O (wrWord s.2 s.1 x) m w':=by
 obtain ⟨g,rfl,hw,hl⟩:=hA
 have hK:Kept [] w (w.alloc (.cells #[.pointer (some ⟨p,0,none⟩)] 171)):=(Kept.refl _ _).alloc _
 have hw1:=Wr.kept hK hw (by simp) (by simp)
 have HW:=hide hw1
 clear hw hw1
 go_enter Tryz.func149,Tryz.ntmps149
 go_wp2_with fail
 refine (wword_call _ p g s.1 s.2 x HW.out (by omega)).mono ?_
 rintro _ w1 hW
 have hr:=hW.1
 subst hr
 have H1:=hide (pen_went (m:=m) hK hW (by have:=wrWord_len s.2 s.1 x;omega))
 clear hW
 go_wp2_with fail
 go_ret
 exact ⟨rfl,H1.out⟩
theorem pen_hand (p:Nat):Hand (penH p) penP (AtP p) where
 e0:=fun _ _=>by kernel_rfl
 e1:=fun _ _=>by kernel_rfl
 e2:=fun _ _=>by kernel_rfl
 e3:=fun _ _=>by kernel_rfl
 e4:=fun _ _=>by kernel_rfl
 kept:=fun ⟨g,e,hw,hl⟩ hk hT=>⟨g,e,Wr.kept hk hw (fun hm=>hT p hm (by rw [e];exact List.mem_cons_self ..)) (fun k hg hm=>hT k hm (by rw [e,hg];simp)),hl⟩
 lt:=fun ⟨g,e,hw,_⟩ k hk=>by
  rw [e] at hk
  rcases List.mem_cons.1 hk with h | h
  ·rw [h];exact hw.lt.1
  ·exact hw.lt.2 k (by simpa using h)
 le:=fun ⟨g,e,hw,hl⟩ hm=>⟨g,e,hw,by omega⟩
 num:=fun w O s m n hA=>penNum p w O s m n hA
 upTo:=fun w O s m n t hA=>penUpTo p w O s m n t hA
 text:=fun w O s m l hA hx=>penText p w O s m l hA hx
 flag:=fun w O s m b hA=>penFlag p w O s m b hA
 word:=fun w O s m x hA=>penWord p w O s m x hA
 bd:=fun n t _ h0 h1=>by
  unfold penP
  simp only
  split
  ·exact ⟨Int.le_refl _,h1⟩
  ·rename_i h;exact ⟨h0,by show n≤t;omega⟩
def u8s (l:List Int):List UInt8:=l.map fun n=>UInt8.ofNat n.toNat
theorem strB_u8s (l:List Int):strB l=str (u8s l):=rfl
def eyeP:PH (List Int × Int) where
 num s _:=((rdNumE s.2 s.1).2.1,((rdNumE s.2 s.1).2.2,(rdNumE s.2 s.1).1))
 upTo s _ t:=if t < (rdNumE s.2 s.1).2.1 then (0,([],rdRefE (rdNumE s.2 s.1).1)) else ((rdNumE s.2 s.1).2.1,((rdNumE s.2 s.1).2.2,(rdNumE s.2 s.1).1))
 text s _:=(u8s (rdRunE s.2 255 s.1).2.1,((rdRunE s.2 255 s.1).2.2,(rdRunE s.2 255 s.1).1))
 flag s _:=((rdFlagE s.2 s.1).2.1,((rdFlagE s.2 s.1).2.2,(rdFlagE s.2 s.1).1))
 word s _:=((rdWordE s.2 s.1).2.1,((rdWordE s.2 s.1).2.2,(rdWordE s.2 s.1).1))
def AtE (p:Nat) (F:List Nat) (w:World) (O:List Nat) (s:List Int × Int) (_:Nat):Prop:=O=p :: F∧Rd w p F s.1 s.2∧∀ k∈F,k < w.heap.size
def eyeH (p:Nat):Hnd:=⟨187,188,189,190,191,.agg #[.pointer (some ⟨p,0,none⟩)]⟩
theorem eye_went {w wa w':World}{p:Nat}{F:List Nat}{s:List Int × Int}{m:Nat}(hk:Kept [] w wa) (hR:Rd w' p F s.1 s.2) (hk':Kept [p] wa w') (hF:∀ k∈F,k < w.heap.size):Went (AtE p F) w (p :: F) s m w' :=
 ⟨p :: F,⟨rfl,hR,fun k hm=>Nat.lt_of_lt_of_le (hF k hm) (Nat.le_trans hk.size hk'.size)⟩,(hk.mono (by simp)).trans hk' (by simp),fun _ hm=>.inl hm⟩
theorem rdNumE_nonneg {e:Int}{l:List Int}(ho:Oct l):0≤(rdNumE e l).2.1:=by
 unfold rdNumE
 split
 ·rcases rdN_shape 6 0 0 l with ⟨h1,k,h⟩ | ⟨_,h⟩
  ·have h3:rdNum l=(0,(rdNum l).2.1,(rdNum l).2.2):=by rw [← h1];rfl
   exact (rdNum_one _ _ _ ho h3).1
  ·show 0≤(rdN 6 0 0 l).2.1;rw [h];exact Int.le_refl _
 ·exact Int.le_refl _
set_option maxHeartbeats 1000000 in
theorem eyeNum (p:Nat) (F:List Nat) (w:World) (O:List Nat) (s:List Int × Int) (m:Nat) (n:Int) (hA:AtE p F w O s (m+1)) :
 Calls Tryz.prog 187 #[.agg #[.pointer (some ⟨p,0,none⟩)],.int .i64 n] w fun r w'=>r=.returned (.int .i64 (rdNumE s.2 s.1).2.1)∧Went (AtE p F) w O ((rdNumE s.2 s.1).2.2,(rdNumE s.2 s.1).1) m w':=by
 obtain ⟨rfl,hR,hF⟩:=hA
 have hK:Kept [] w (w.alloc (.cells #[.pointer (some ⟨p,0,none⟩)] 187)):=(Kept.refl _ _).alloc _
 have hR1:=Rd.kept hK hR (by simp) (by simp)
 have HR:=hide hR1
 have HF:=hide hF
 clear hR hR1 hF
 go_enter Tryz.func187,Tryz.ntmps187
 go_wp2_with fail
 refine (num_call _ p F s.1 s.2 HR.out).mono ?_
 rintro _ w1 ⟨rfl,h1,h2⟩
 have H1:=hide (eye_went (m:=m) (s:=((rdNumE s.2 s.1).2.2,(rdNumE s.2 s.1).1)) hK h1 h2 HF.out)
 clear h1 h2
 go_wp2_with fail
 go_ret
 exact ⟨rfl,H1.out⟩
set_option maxHeartbeats 1000000 in
theorem eyeFlag (p:Nat) (F:List Nat) (w:World) (O:List Nat) (s:List Int × Int) (m:Nat) (b:Bool) (hA:AtE p F w O s (m+1)) :
 Calls Tryz.prog 190 #[.agg #[.pointer (some ⟨p,0,none⟩)],.bool b] w fun r w'=>r=.returned (.bool (rdFlagE s.2 s.1).2.1)∧Went (AtE p F) w O ((rdFlagE s.2 s.1).2.2,(rdFlagE s.2 s.1).1) m w':=by
 obtain ⟨rfl,hR,hF⟩:=hA
 have hK:Kept [] w (w.alloc (.cells #[.pointer (some ⟨p,0,none⟩)] 187)):=(Kept.refl _ _).alloc _
 have hR1:=Rd.kept hK hR (by simp) (by simp)
 have HR:=hide hR1
 have HF:=hide hF
 clear hR hR1 hF
 go_enter Tryz.func190,Tryz.ntmps190
 go_wp2_with fail
 refine (rFlag_call _ p F s.1 s.2 HR.out).mono ?_
 rintro _ w1 ⟨rfl,h1,h2⟩
 have H1:=hide (eye_went (m:=m) (s:=((rdFlagE s.2 s.1).2.2,(rdFlagE s.2 s.1).1)) hK h1 h2 HF.out)
 clear h1 h2
 go_wp2_with fail
 go_ret
 exact ⟨rfl,H1.out⟩
set_option maxHeartbeats 1000000 in
theorem eyeWord (p:Nat) (F:List Nat) (w:World) (O:List Nat) (s:List Int × Int) (m:Nat) (x:Int) (hA:AtE p F w O s (m+1)) :
 Calls Tryz.prog 191 #[.agg #[.pointer (some ⟨p,0,none⟩)],.int .u64 x] w fun r w'=>r=.returned (.int .u64 (rdWordE s.2 s.1).2.1)∧Went (AtE p F) w O ((rdWordE s.2 s.1).2.2,(rdWordE s.2 s.1).1) m w':=by
 obtain ⟨rfl,hR,hF⟩:=hA
 have hK:Kept [] w (w.alloc (.cells #[.pointer (some ⟨p,0,none⟩)] 187)):=(Kept.refl _ _).alloc _
 have hR1:=Rd.kept hK hR (by simp) (by simp)
 have HR:=hide hR1
 have HF:=hide hF
 clear hR hR1 hF
 go_enter Tryz.func191,Tryz.ntmps191
 go_wp2_with fail
 refine (rWord_call _ p F s.1 s.2 HR.out).mono ?_
 rintro _ w1 ⟨rfl,h1,h2⟩
 have H1:=hide (eye_went (m:=m) (s:=((rdWordE s.2 s.1).2.2,(rdWordE s.2 s.1).1)) hK h1 h2 HF.out)
 clear h1 h2
 go_wp2_with fail
 go_ret
 exact ⟨rfl,H1.out⟩
set_option maxHeartbeats 1000000 in
theorem eyeText (p:Nat) (F:List Nat) (w:World) (O:List Nat) (s:List Int × Int) (m:Nat) (l:List UInt8) (hA:AtE p F w O s (m+1)) :
 Calls Tryz.prog 189 #[.agg #[.pointer (some ⟨p,0,none⟩)],.string (str l)] w fun r w'=>r=.returned (.string (str (u8s (rdRunE s.2 255 s.1).2.1)))∧Went (AtE p F) w O ((rdRunE s.2 255 s.1).2.2,(rdRunE s.2 255 s.1).1) m w':=by
 obtain ⟨rfl,hR,hF⟩:=hA
 have hK:Kept [] w (w.alloc (.cells #[.pointer (some ⟨p,0,none⟩)] 187)):=(Kept.refl _ _).alloc _
 have hR1:=Rd.kept hK hR (by simp) (by simp)
 have HR:=hide hR1
 have HF:=hide hF
 clear hR hR1 hF
 go_enter Tryz.func189,Tryz.ntmps189
 go_wp2_with fail
 refine (text_call _ p F s.1 s.2 255 HR.out).mono ?_
 rintro _ w1 ⟨rfl,h1,h2⟩
 have H1:=hide (eye_went (m:=m) (s:=((rdRunE s.2 255 s.1).2.2,(rdRunE s.2 255 s.1).1)) hK h1 h2 HF.out)
 clear h1 h2
 go_wp2_with fail
 go_ret
 exact ⟨rfl,H1.out⟩
set_option maxHeartbeats 1000000 in
theorem eyeUpTo (p:Nat) (F:List Nat) (w:World) (O:List Nat) (s:List Int × Int) (m:Nat) (n t:Int) (hA:AtE p F w O s (m+1)) :
 Calls Tryz.prog 188 #[.agg #[.pointer (some ⟨p,0,none⟩)],.int .i64 n,.int .i64 t] w fun r w'=>r=.returned (.int .i64 (eyeP.upTo s n t).1)∧Went (AtE p F) w O (eyeP.upTo s n t).2 m w':=by
 obtain ⟨rfl,hR,hF⟩:=hA
 have hK:Kept [] w (w.alloc (.cells #[.pointer (some ⟨p,0,none⟩)] 187)):=(Kept.refl _ _).alloc _
 have hR1:=Rd.kept hK hR (by simp) (by simp)
 have HR:=hide hR1
 have HF:=hide hF
 have hlt:=hR.lt
 have hpF:w.heap.size≠p:=by omega
 have cN:=num_call _ p F s.1 s.2 HR.out
 have HU:Hid (eyeP.upTo s n t=if t < (rdNumE s.2 s.1).2.1 then (0,([],rdRefE (rdNumE s.2 s.1).1)) else ((rdNumE s.2 s.1).2.1,((rdNumE s.2 s.1).2.2,(rdNumE s.2 s.1).1))):=rfl
 generalize rdNumE s.2 s.1=q at cN HU
 obtain ⟨e1,x,rest⟩:=q
 simp only at cN HU
 clear hR hR1 hF
 by_cases h:t < x
 ·have HQ:Hid (eyeP.upTo s n t=(0,([],rdRefE e1))):=by show _=_;rw [HU.out,if_pos h]
  go_enter Tryz.func188,Tryz.ntmps188
  go_wp2_with fail
  refine cN.mono ?_
  rintro _ w1 ⟨rfl,h1,h2⟩
  have H1:=hide h1
  have H2:=hide h2
  have hc1:w1.cell? ⟨w.heap.size,0,none⟩=some (.pointer (some ⟨p,0,none⟩)):=h2.cell (by simp [World.cell?_alloc_new]) (by simpa using hpF)
  clear h1 h2
  go_wp2_with fail
  refine (refuse_call _ p F rest e1 H1.out).mono ?_
  rintro _ w2 ⟨rfl,h3,h4⟩
  have H3:=hide (eye_went (m:=m) (s:=([],rdRefE e1)) hK h3 (H2.out.trans h4 (by simp)) HF.out)
  clear h3 h4
  go_wp2_with fail
  go_ret
  rw [HQ.out]
  exact ⟨rfl,H3.out⟩
 ·have HQ:Hid (eyeP.upTo s n t=(x,(rest,e1))):=by show _=_;rw [HU.out,if_neg h]
  have hb:decide (t < x)=false:=by simp;omega
  go_enter Tryz.func188,Tryz.ntmps188
  go_wp2_with fail
  refine cN.mono ?_
  rintro _ w1 ⟨rfl,h1,h2⟩
  have H1:=hide (eye_went (m:=m) (s:=(rest,e1)) hK h1 h2 HF.out)
  clear h1 h2
  go_wp2_with fail
  go_ret
  rw [HQ.out]
  exact ⟨rfl,H1.out⟩
theorem eye_hand (p:Nat) (F:List Nat):Hand (eyeH p) eyeP (AtE p F) where
 e0:=fun _ _=>by kernel_rfl
 e1:=fun _ _=>by kernel_rfl
 e2:=fun _ _=>by kernel_rfl
 e3:=fun _ _=>by kernel_rfl
 e4:=fun _ _=>by kernel_rfl
 kept:=fun ⟨e,hR,hF⟩ hk hT=>⟨e,Rd.kept hk hR (fun hm=>hT p hm (by rw [e];exact List.mem_cons_self ..)) (fun k hf hm=>hT k hm (by rw [e];exact List.mem_cons_of_mem _ hf)),fun k hf=>Nat.lt_of_lt_of_le (hF k hf) hk.size⟩
 lt:=fun ⟨e,hR,hF⟩ k hk=>by
  rw [e] at hk
  rcases List.mem_cons.1 hk with h | h
  ·rw [h];exact hR.lt
  ·exact hF k h
 le:=fun h _=>h
 num:=fun w O s m n hA=>eyeNum p F w O s m n hA
 upTo:=fun w O s m n t hA=>eyeUpTo p F w O s m n t hA
 text:=fun w O s m l hA _=>eyeText p F w O s m l hA
 flag:=fun w O s m b hA=>eyeFlag p F w O s m b hA
 word:=fun w O s m x hA=>eyeWord p F w O s m x hA
 bd:=fun n t ⟨_,hR,_⟩ _ h1=>by
  obtain ⟨_,_,_,_,_,_,ho,_⟩:=hR
  have hz:=fun e=>rdNumE_nonneg (e:=e) ho
  unfold eyeP
  simp only
  split
  ·exact ⟨Int.le_refl _,h1⟩
  ·rename_i h;exact ⟨hz _,by show (rdNumE _ _).2.1≤t;omega⟩
end Go.Proofs.YtakafmejllilnaaGreat
