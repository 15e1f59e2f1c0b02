/-
  The program's disk: made, works, a name, look, find, has, step, do.
-/
import Derived.Test.YteiagkjhmhllnaaFpMem
import Derived.Test.YteiagkjhmhllnaaShelf
import Derived.WalkSpells
namespace Go.Proofs.Yteiagkjhmhllnaa
open Go.RowKit
theorem keysF:Maps.Keyed Try.prog 9:=Maps.string_keyed Try.underlying9
theorem zeroF (w:World):(zeroValue 59).run Try.prog w=.ok (.pointer none) w:=by kernel_rfl
theorem keyF {n:List UInt8}(h:n.length≤1000000):keyOf Try.prog 9 (.string (str n))=some (.string n):=by
 have:=WideMaps.keyOf_string_mk Try.underlying9 (s:=str n) (by rw [str_size];unfold maxLen;omega)
 rwa [str_data] at this
theorem AtP.find {w:World}{O:List Nat}{p mb:Nat}{q:Int}{d:Dk}{X:List Pm}(h:AtP w O p mb q d X) {x:Pm}(hx:x∈X) (W:World) (hm:W.ownsMap Try.prog 9 ptR mb X.length (nmD (X.map Pm.p))) :
 (Instr.lookup 54 (.map (some mb)) (.string (str x.n)) false).run Try.prog W=.ok (.pointer (some ⟨x.k,0,none⟩)) W:=by
 obtain ⟨v,ps,hrun,hv⟩:=hm.lookup (t:=54) (e:=59) keysF Try.underlying54 (zeroF W) ptR_nil (keyF (h.z x hx))
 have h1:RisG Prod.fst (X.map Pm.p):=(risG_map Pm.n Prod.fst Pm.p (fun _=>rfl)).2 h.s
 have h2:=nmD_at h1 (List.mem_map_of_mem (f:=Pm.p) hx) (.lit (.int .i64 (-1)))
 rw [show x.p.1=x.n from rfl] at h2
 rw [h2] at hv
 rw [hrun,ptR_inv hv];rfl
theorem AtP.miss {w:World}{O:List Nat}{p mb:Nat}{q:Int}{d:Dk}{X:List Pm}(_h:AtP w O p mb q d X) {n:List UInt8}(hn:n.length≤1000000) (hx:∀ x∈X,x.n≠n) (W:World) (hm:W.ownsMap Try.prog 9 ptR mb X.length (nmD (X.map Pm.p))) :
 (Instr.lookup 54 (.map (some mb)) (.string (str n)) false).run Try.prog W=.ok (.pointer none) W:=by
 obtain ⟨v,ps,hrun,hv⟩:=hm.lookup (t:=54) (e:=59) keysF Try.underlying54 (zeroF W) ptR_nil (keyF hn)
 rw [nmD_no (n:=n) (fun y hy=>by obtain ⟨x,h1,rfl⟩:=List.mem_map.1 hy;exact hx x h1)] at hv
 rw [hrun,ptR_inv0 hv]
theorem AtP.got {w:World}{O:List Nat}{p mb:Nat}{q:Int}{d:Dk}{X:List Pm}(h:AtP w O p mb q d X) {n:List UInt8}{i:Nat}(hf:findF n d.L=some i):∃ (hi:i < X.length) (hi':i < d.L.length),X[i].n=n∧d.L[i]=X[i].fl:=by
 obtain ⟨h1,h2⟩:=findF_lt hf
 have hi:i < X.length:=by rw [h.len];exact h1
 have e:d.L[i]=X[i].fl:=by rw [List.getElem_of_eq h.L.symm h1,List.getElem_map]
 exact ⟨hi,h1,by rw [e] at h2;exact h2,e⟩
theorem AtP.not {w:World}{O:List Nat}{p mb:Nat}{q:Int}{d:Dk}{X:List Pm}(h:AtP w O p mb q d X) {n:List UInt8}(hf:findF n d.L=none):∀ x∈X,x.n≠n:=fun x hx e =>
 findF_none hf x.fl (by rw [← h.L];exact List.mem_map_of_mem hx) e
theorem cloneF_call (l:List UInt8) (w:World) (hl:l.length≤1000000) :
 Calls Try.prog 38 #[.string (str l)] w fun e w'=>e=.returned (.string (str l))∧Kept [] w w':=by
 have cC:=Try.stringslite_Clone (str l)
 have hl':(str l).size≤281474976710656:=by rw [str_size];omega
 go_enter Try.func38,Try.ntmps38
 go_wp2_with fail
 refine (cC _ hl').mono ?_
 rintro e w' ⟨rfl,hB⟩
 go_wp2
 go_ret
 exact ⟨rfl,Kept.of_below hB⟩
theorem isNameF_call (w:World) (n:List UInt8):Calls Try.prog 37 #[.string (str n)] w fun e w'=>e=.returned (.bool (nameF n))∧w'=w:=by
 have hs:=str_size n
 by_cases h1:n=[]
 ·subst h1
  have hz1:(str []).toList=[]:=by rw [Go.ByteArray.toList_eq,str_data]
  have hz2:(str []).toList.isEmpty=true:=by rw [hz1];rfl
  go_enter Try.func37,Try.ntmps37
  go_wp2_with fail
  go_ret
  exact ⟨rfl,rfl⟩
 ·have hz1:¬ (str n).toList=[]:=by rw [Go.ByteArray.toList_eq,str_data];exact h1
  have hz2:(str n).toList.isEmpty=false:=by cases h:(str n).toList with | nil=>exact absurd h hz1 | cons a b=>rfl
  have h0:0 < n.length:=by cases n <;> simp at h1 ⊢
  by_cases h2:n.length≤24
  ·have e:nameF n=true:=by unfold nameF;simp [h0,h2]
   have hz:decide ((n.length:Int)≤24)=true:=decide_eq_true (by omega)
   go_enter Try.func37,Try.ntmps37
   go_wp2_with fail
   go_ret
   exact ⟨by rw [e];rfl,rfl⟩
  ·have e:nameF n=false:=by unfold nameF;simp [h2]
   have hz:decide ((n.length:Int)≤24)=false:=decide_eq_false (by omega)
   go_enter Try.func37,Try.ntmps37
   go_wp2_with fail
   go_ret
   exact ⟨by rw [e];rfl,rfl⟩
theorem neq_mapF (mb:Nat) (w:World):(binOp .neq 54 (.map (some mb)) (.map none)).run Try.prog w=.ok (.bool true) w:=by
 have h:=run_neq_map_nil (P:=Try.prog) w 54 9 59 (some mb) Try.underlying54
 simpa using h
section
variable {w : World} {O : List Nat} {p mb : Nat} {q : Int} {d : Dk} {X : List Pm}
set_option maxRecDepth 100000 in
theorem madeF_call (h:AtP w O p mb q d X):Calls Try.prog 35 #[.pointer (some ⟨p,0,none⟩)] w fun e w'=>e=.returned (.bool true)∧w'=w:=by
 have hq:=neq_mapF mb
 have c0:=h.h.cell 0 rfl
 clear h
 go_enter Try.func35,Try.ntmps35
 go_wp2_with fail
 go_ret
 exact ⟨rfl,rfl⟩
set_option maxRecDepth 100000 in
theorem worksF_call (h:AtP w O p mb q d X):Calls Try.prog 36 #[.pointer (some ⟨p,0,none⟩)] w fun e w'=>e=.returned (.int .i64 (if d.d=true then 7 else 0))∧w'=w:=by
 have cM:=hide (madeF_call h)
 have c3:=h.h.cell 3 rfl
 obtain ⟨L,s,f,dd⟩:=d
 simp only at c3 ⊢
 clear h
 cases dd
 ·go_enter Try.func36,Try.ntmps36
  go_wp2_with (go_at_call 35;refine cM.out.mono ?_;clear cM;rintro _ w1 ⟨rfl,hw1⟩;obtain rfl:=hw1.symm)
  go_ret
  exact ⟨rfl,rfl⟩
 ·go_enter Try.func36,Try.ntmps36
  go_wp2_with (go_at_call 35;refine cM.out.mono ?_;clear cM;rintro _ w1 ⟨rfl,hw1⟩;obtain rfl:=hw1.symm)
  go_ret
  exact ⟨rfl,rfl⟩
def plP (X:List Pm):Option Nat→Value
 | none=>.pointer none
 | some i=>.pointer (X[i]?.map fun x=>⟨x.k,0,none⟩)
theorem plP_some {i:Nat}(hi:i < X.length):plP X (some i)=.pointer (some ⟨X[i].k,0,none⟩):=by
 simp [plP,hi]
theorem AtP.looks (h:AtP w O p mb q d X) {n:List UInt8}(hn:n.length≤1000000) (W:World) (hm:W.ownsMap Try.prog 9 ptR mb X.length (nmD (X.map Pm.p))) :
 (Instr.lookup 54 (.map (some mb)) (.string (str n)) false).run Try.prog W=.ok (plP X (findF n d.L)) W:=by
 cases hf:findF n d.L with
 | none=>exact h.miss hn (h.not hf) W hm
 | some i =>
   obtain ⟨hi,_,h1,_⟩:=h.got hf
   have:=h.find (List.getElem_mem hi) W hm
   rw [h1] at this
   rw [this,plP_some hi]
set_option maxRecDepth 100000 in
theorem lookF_call (h:AtP w O p mb q d X) (n:List UInt8) (hn:n.length≤1000000):Calls Try.prog 45 #[.pointer (some ⟨p,0,none⟩),.string (str n)] w fun e w'=>e=.returned (plP X (findF n d.L))∧w'=w:=by
 have cM:=hide (madeF_call h)
 have c0:=h.h.cell 0 rfl
 have hl:=h.looks hn w h.m
 generalize plP X (findF n d.L)=v at *
 clear h
 go_enter Try.func45,Try.ntmps45
 go_wp2_with (go_at_call 35;refine cM.out.mono ?_;clear cM;rintro _ w1 ⟨rfl,hw1⟩;obtain rfl:=hw1.symm)
 go_ret
 exact ⟨rfl,rfl⟩
def fnP (X:List Pm) (d:Dk) (n:List UInt8):Value :=
 if d.d=true then .tuple #[.pointer none,.int .i64 7] else match findF n d.L with
  | none=>.tuple #[.pointer none,.int .i64 8]
  | some i=>.tuple #[plP X (some i),.int .i64 0]
set_option maxRecDepth 100000 in
theorem fndF_call (h:AtP w O p mb q d X) (n:List UInt8) (hn:n.length≤1000000):Calls Try.prog 41 #[.pointer (some ⟨p,0,none⟩),.string (str n)] w fun e w'=>e=.returned (fnP X d n)∧w'=w:=by
 have cW:=hide (worksF_call h)
 have cL:=hide (lookF_call h n hn)
 cases hd:d.d with
 | true =>
   have HE:Hid (fnP X d n=.tuple #[.pointer none,.int .i64 7]):=by show _=_;unfold fnP;rw [if_pos hd]
   rw [hd] at cW
   clear h
   go_enter Try.func41,Try.ntmps41
   go_wp2_with (go_at_call 36;refine cW.out.mono ?_;clear cW;rintro _ w1 ⟨rfl,hw1⟩;obtain rfl:=hw1.symm)
   go_ret2
   exact ⟨congrArg Ending.returned HE.out.symm,rfl⟩
 | false =>
   rw [hd] at cW
   cases hf:findF n d.L with
   | none =>
     have HE:Hid (fnP X d n=.tuple #[.pointer none,.int .i64 8]):=by show _=_;unfold fnP;rw [hd,hf];rfl
     rw [hf] at cL
     clear h
     go_enter Try.func41,Try.ntmps41
     go_wp2_with (first | (go_at_call 36;refine cW.out.mono ?_;clear cW;rintro _ w1 ⟨rfl,hw1⟩;obtain rfl:=hw1.symm) | (go_at_call 45;refine cL.out.mono ?_;clear cL;rintro _ w1 ⟨rfl,hw1⟩;obtain rfl:=hw1.symm;unfold plP))
     go_ret2
     exact ⟨congrArg Ending.returned HE.out.symm,rfl⟩
   | some i =>
     obtain ⟨hi,_,_,_⟩:=h.got hf
     have HE:Hid (fnP X d n=.tuple #[.pointer (some ⟨X[i].k,0,none⟩),.int .i64 0]):=by show _=_;unfold fnP;rw [hd,hf,← plP_some hi];rfl
     rw [hf,plP_some hi] at cL
     generalize X[i].k=g at *
     clear h
     go_enter Try.func41,Try.ntmps41
     go_wp2_with (first | (go_at_call 36;refine cW.out.mono ?_;clear cW;rintro _ w1 ⟨rfl,hw1⟩;obtain rfl:=hw1.symm) | (go_at_call 45;refine cL.out.mono ?_;clear cL;rintro _ w1 ⟨rfl,hw1⟩;obtain rfl:=hw1.symm))
     go_ret2
     exact ⟨congrArg Ending.returned HE.out.symm,rfl⟩
set_option maxRecDepth 100000 in
theorem hasF_call (w:World) (g n c:Nat) (ao:Option Addr) (l k:Int) (hB:Bx w g 61 [.slice ao n c,.int .i64 l]):Calls Try.prog 52 #[.pointer (some ⟨g,0,none⟩),.int .i64 k] w fun e w'=>e=.returned (.bool (decide (0≤k) && decide (k≤n)))∧w'=w:=by
 have c0:=hB.cell 0 rfl
 by_cases h0:0≤k
 ·have hz:decide (0≤k)=true:=decide_eq_true h0
  go_enter Try.func52,Try.ntmps52
  go_wp2_with fail
  go_ret
  exact ⟨by simp [h0],rfl⟩
 ·have hz:decide (0≤k)=false:=decide_eq_false h0
  go_enter Try.func52,Try.ntmps52
  go_wp2_with fail
  go_ret
  exact ⟨rfl,rfl⟩
set_option maxHeartbeats 4000000 in
set_option maxRecDepth 100000 in
theorem stpF_call (h:AtP w O p mb q d X) (hs:0≤d.s∧d.s≤1000000000000) (hf:-1≤d.f∧d.f < 9223372036854775808) :
 Calls Try.prog 40 #[.pointer (some ⟨p,0,none⟩)] w fun e w'=>e=.returned (.int .i64 (resF (stepF d).2))∧(∃ q',AtP w' O p mb q' (stepF d).1 X)∧Kept [p] w w':=by
 obtain ⟨L,s,f,dd⟩:=d
 have HH:=hide h
 have hB:=h.h
 have hmx:=h.f
 simp only at hB hs hf hmx
 have c1:=hB.cell 1 rfl
 have c2:=hB.cell 2 rfl
 have z1:=hB.froz 1
 have z2:=hB.froz 2
 have z3:=hB.froz 3
 have k1:Kept [p] w (w.setCell ⟨p,1,none⟩ (.int .i64 (s+1))):=(Kept.refl _ _).setCell (by simp) _
 have hs1:IntKind.i64.wrap (s+1)=s+1:=IntWalk.i64_in _ (by omega)
 obtain ⟨W,hW⟩:∃ W,W=w.setCell ⟨p,1,none⟩ (.int .i64 (s+1)):=⟨_,rfl⟩
 have HW:=hide hW
 have HB1:Hid (Bx W p 56 [.map (some mb),.int .i64 (s+1),.int .i64 q,.bool dd]):=by rw [hW];exact hB.set 1 _
 rw [← hW] at k1
 have HK1:=hide k1
 clear hB h hW k1
 by_cases h0:q=0
 ·subst h0
  obtain rfl:f=0:=by omega
  have HE:Hid (stepF ⟨L,s,0,dd⟩=(⟨L,s+1,0,true⟩,false)):=by show _=_;unfold stepF;rw [if_pos rfl]
  go_enter Try.func40,Try.ntmps40
  go_upto_region 2 with fail
  rw [← HW.out]
  clear c1 c2 z1 z2 z3
  have c2:=HB1.out.cell 2 rfl
  have c3:=HB1.out.cell 3 rfl
  have z3:=HB1.out.froz 3
  go_wp2_with fail
  go_ret
  rw [HE.out]
  exact ⟨rfl,⟨0,HH.out.head (HB1.out.set 3 (.bool true)) (HK1.out.setCell (.inl (by simp)) _) rfl rfl⟩,HK1.out.setCell (.inl (by simp)) _⟩
 ·by_cases h1:0 < q
  ·obtain rfl:f=q:=by omega
   have HE:Hid (stepF ⟨L,s,f,dd⟩=(⟨L,s+1,f - 1,dd⟩,true)):=by show _=_;unfold stepF;rw [if_neg h0,if_pos h1]
   have HM:Hid (max (f - 1) (-1)=f - 1):=by show _=_;omega
   clear hmx
   go_enter Try.func40,Try.ntmps40
   go_upto_region 2 with fail
   rw [← HW.out]
   clear c1 c2 z1 z2 z3
   have c2:=HB1.out.cell 2 rfl
   have z2:=HB1.out.froz 2
   go_wp2_with fail
   go_ret
   rw [HE.out]
   exact ⟨rfl,⟨f - 1,HH.out.head (HB1.out.set 2 (.int .i64 (f - 1))) (HK1.out.setCell (.inl (by simp)) _) rfl HM.out⟩,HK1.out.setCell (.inl (by simp)) _⟩
  ·obtain rfl:f=-1:=by omega
   have HE:Hid (stepF ⟨L,s,-1,dd⟩=(⟨L,s+1,-1,dd⟩,true)):=rfl
   have HM:=hide hmx
   clear hmx
   go_enter Try.func40,Try.ntmps40
   go_upto_region 2 with fail
   rw [← HW.out]
   clear c1 c2 z1 z2 z3
   have c2:=HB1.out.cell 2 rfl
   go_wp2_with fail
   go_ret
   rw [HE.out]
   exact ⟨rfl,⟨q,HH.out.head HB1.out HK1.out rfl HM.out⟩,HK1.out⟩
end
theorem doF_no (w:World) (p:Nat) (e0:Int) (he:e0≠0) (fv:Value):Calls Try.prog 42 #[.pointer (some ⟨p,0,none⟩),.int .i64 e0,fv] w fun e w'=>e=.returned (.int .i64 e0)∧w'=w:=by
 have heb:(e0==0)=false:=by simp [he]
 clear he
 go_enter Try.func42,Try.ntmps42
 go_wp2_with fail
 go_ret
 exact ⟨rfl,rfl⟩
set_option maxRecDepth 100000 in
theorem doF_call {w:World}{O:List Nat}{p mb:Nat}{q:Int}{d:Dk}{X:List Pm}(h:AtP w O p mb q d X) (hs:0≤d.s∧d.s≤1000000000000) (hf:-1≤d.f∧d.f < 9223372036854775808)
 (f:Nat) (hcf:∀ (a:Array Value) (w:World),Sem.run Try.prog (callFunc f a) w=.ok (.enter f a) w) (cap:Array Value) (d2:Dk)
 (hact:(stepF d).2=true→∀ W q',AtP W O p mb q' (stepF d).1 X→Kept [p] w W→Calls Try.prog f cap W fun e w'=>e=.returned (.tuple #[])∧FqP p W O d2 w') :
 Calls Try.prog 42 #[.pointer (some ⟨p,0,none⟩),.int .i64 0,.func (.func f) #[] cap] w fun e w'=>e=.returned (.int .i64 (resF (stepF d).2))∧FqP p w O (if (stepF d).2=true then d2 else (stepF d).1) w':=by
 have cS:=hide (stpF_call h hs hf)
 have HA:=hide hact
 have HP:=hide h.pO
 generalize stepF d=r at *
 obtain ⟨r1,r2⟩:=r
 simp only at *
 clear h hact
 cases r2
 ·go_enter Try.func42,Try.ntmps42
  go_wp2_with (go_at_call 40;refine cS.out.mono ?_;clear cS;rintro _ w1 ⟨rfl,⟨q1,h1⟩,hk1⟩;have H1:=hide h1;have HK1:=hide hk1;clear h1 hk1;unfold resF)
  go_ret
  exact ⟨rfl,H1.out.fq (HK1.out.mono (fun i hi=>by simp at hi;subst hi;exact .inl HP.out)) (fun i hi=>.inl hi)⟩
 ·go_enter Try.func42,Try.ntmps42
  go_wp2_with (go_at_call 40;refine cS.out.mono ?_;clear cS;rintro _ w1 ⟨rfl,⟨q1,h1⟩,hk1⟩;have H1:=hide h1;have HK1:=hide hk1;clear h1 hk1;unfold resF)
  refine (HA.out trivial w1 q1 H1.out HK1.out).mono ?_
  rintro _ w2 ⟨rfl,h2⟩
  have H2:=hide h2
  clear h2
  go_wp2_with fail
  go_ret
  exact ⟨rfl,FqP.trans (HK1.out.mono (fun i hi=>by simp at hi;subst hi;exact .inl HP.out)) (fun i hi=>.inl hi) H2.out⟩
end Go.Proofs.Yteiagkjhmhllnaa
