/-
  The program's disk: Sync, Truncate.
-/
import Derived.Test.YteiagkjhmhllnaaFpApp
import Derived.Test.YteiagkjhmhllnaaFdRen
namespace Go.Proofs.Yteiagkjhmhllnaa
open Go.RowKit
theorem enterSyn (a:Array Value) (w:World):Sem.run Try.prog (callFunc 43 a) w=.ok (.enter 43 a) w:=by kernel_rfl
theorem enterTru (a:Array Value) (w:World):Sem.run Try.prog (callFunc 53 a) w=.ok (.enter 53 a) w:=by kernel_rfl
theorem makeF (fn:Fn) (first cap:Array Value) (w:World):(Instr.makeFunc fn first cap).run Try.prog w=.ok (.func fn first cap) w:=rfl
theorem FqP.same {p:Nat}{w w':World}{O:List Nat}{mb:Nat}{q:Int}{d:Dk}{X:List Pm}(h:AtP w O p mb q d X) (k:Kept [] w w'):FqP p w O d w' :=
 (h.kept k (by simp)).fq (k.mono (by simp)) (fun _ hk=>.inl hk)
section
variable {w : World} {O : List Nat} {p mb : Nat} {q : Int} {d : Dk} {X : List Pm}
theorem AtP.syn (h:AtP w O p mb q d X) {n:List UInt8}{i:Nat}(hf:findF n d.L=some i) :
 ∃ g,plP X (some i)=.pointer (some ⟨g,0,none⟩)∧Calls Try.prog 44 #[.pointer (some ⟨g,0,none⟩)] w fun e w'=>e=.returned (.tuple #[])∧UpP w O p mb q ⟨updF d.L i (fun x=>⟨x.n,x.b,x.b.length⟩),d.s,d.f,d.d⟩ w':=by
 obtain ⟨hi,hL,hn,he⟩:=h.got hf
 have hx:X[i]∈X:=List.getElem_mem hi
 refine ⟨X[i].k,plP_some hi,(syncF_call (h.c _ hx) (h.o _ hx) (h.xb hx)).mono ?_⟩
 rintro _ w' ⟨rfl,h1,h2,h4⟩
 exact ⟨rfl,h.up hi hL _ _ _ _ (h4.mono (by simp [pmB_k])) h1 h2 (fun _ hk=>.inl hk) (by rw [he];rfl) rfl⟩
theorem AtP.cut (h:AtP w O p mb q d X) {n:List UInt8}{i:Nat}(hf:findF n d.L=some i) (hbd:∀ x∈d.L,x.b.length≤10000000000) (k:Nat) (hk:∀ hL:i < d.L.length,k≤d.L[i].b.length) :
 ∃ g,plP X (some i)=.pointer (some ⟨g,0,none⟩)∧Calls Try.prog 54 #[.pointer (some ⟨g,0,none⟩),.int .i64 k] w fun e w'=>e=.returned (.tuple #[])∧UpP w O p mb q ⟨updF d.L i (fun x=>⟨x.n,x.b.take k,min x.l k⟩),d.s,d.f,d.d⟩ w':=by
 obtain ⟨hi,hL,hn,he⟩:=h.got hf
 have hx:X[i]∈X:=List.getElem_mem hi
 have hb:=hbd d.L[i] (List.getElem_mem hL)
 have hk2:=hk hL
 rw [he] at hb hk2
 refine ⟨X[i].k,plP_some hi,(cutF_call (h.c _ hx) (h.o _ hx) (h.xb hx) k hk2 (by have:X[i].b.length≤10000000000:=hb;omega)).mono ?_⟩
 rintro _ w' ⟨rfl,v',h1,h2,h3,h4⟩
 exact ⟨rfl,h.up hi hL _ _ _ _ (h4.mono (by simp [pmB_k])) h1 h2 (fun _ hk=>.inr (h3 _ hk)) (by rw [he];rfl) rfl⟩
set_option maxRecDepth 100000 in
theorem syn1_call (h:AtP w O p mb q d X) {n:List UInt8}{i:Nat}(hf:findF n d.L=some i) (cb:Nat) (hc:w.cell? ⟨cb,0,none⟩=some (plP X (some i))) :
 Calls Try.prog 43 #[.pointer (some ⟨cb,0,none⟩)] w fun e w'=>e=.returned (.tuple #[])∧UpP w O p mb q ⟨updF d.L i (fun x=>⟨x.n,x.b,x.b.length⟩),d.s,d.f,d.d⟩ w':=by
 obtain ⟨g,hg,hcs⟩:=h.syn hf
 rw [hg] at hc
 have cS:=hide hcs
 clear hcs h
 go_enter Try.func43,Try.ntmps43
 go_wp2_with (go_at_call 44;refine cS.out.mono ?_;clear cS;rintro _ w1 ⟨rfl,hu⟩;have HU:=hide hu;clear hu)
 go_end0
 exact ⟨rfl,HU.out⟩
set_option maxRecDepth 100000 in
theorem tru1_call (h:AtP w O p mb q d X) {n:List UInt8}{i:Nat}(hf:findF n d.L=some i) (hbd:∀ x∈d.L,x.b.length≤10000000000) (k:Nat) (hk:∀ hL:i < d.L.length,k≤d.L[i].b.length) (cb kb:Nat) (hc:w.cell? ⟨cb,0,none⟩=some (plP X (some i))) (hkb:w.cell? ⟨kb,0,none⟩=some (.int .i64 k)) :
 Calls Try.prog 53 #[.pointer (some ⟨cb,0,none⟩),.pointer (some ⟨kb,0,none⟩)] w fun e w'=>e=.returned (.tuple #[])∧UpP w O p mb q ⟨updF d.L i (fun x=>⟨x.n,x.b.take k,min x.l k⟩),d.s,d.f,d.d⟩ w':=by
 obtain ⟨g,hg,hcs⟩:=h.cut hf hbd k hk
 rw [hg] at hc
 have cS:=hide hcs
 clear hcs h
 go_enter Try.func53,Try.ntmps53
 go_wp2_with (go_at_call 54;refine cS.out.mono ?_;clear cS;rintro _ w1 ⟨rfl,hu⟩;have HU:=hide hu;clear hu)
 go_end0
 exact ⟨rfl,HU.out⟩
theorem fnP_dead (hd:d.d=true) (n:List UInt8):fnP X d n=.tuple #[.pointer none,.int .i64 7]:=by unfold fnP;rw [if_pos hd]
theorem fnP_none (hd:d.d=false) {n:List UInt8}(hf:findF n d.L=none):fnP X d n=.tuple #[.pointer none,.int .i64 8]:=by unfold fnP;rw [hd,hf];rfl
theorem fnP_some (hd:d.d=false) {n:List UInt8}{i:Nat}(hf:findF n d.L=some i):fnP X d n=.tuple #[plP X (some i),.int .i64 0]:=by unfold fnP;rw [hd,hf];rfl
set_option maxHeartbeats 1000000 in
set_option maxRecDepth 100000 in
theorem synP_call (h:AtP w O p mb q d X) (hb:BdD d) (n:List UInt8) (hn:n.length≤1000000) :
 Calls Try.prog 12 #[.pointer (some ⟨p,0,none⟩),.string (str n)] w fun e w'=>e=.returned (.int .i64 (synF n d).2)∧FqP p w O (synF n d).1 w':=by
 have HH:=hide h
 have cF:=hide (fndF_call h n hn)
 have hmf:=makeF
 cases hdd:d.d
 rotate_left
 ·have HE:Hid (synF n d=(d,7)):=by show _=_;unfold synF;rw [if_pos hdd]
  rw [fnP_dead hdd] at cF
  clear h hb
  go_enter Try.func12,Try.ntmps12
  go_wp2_with (first | (go_at_call 41;refine cF.out.mono ?_;clear cF;rintro _ w1 ⟨rfl,hw1⟩;obtain rfl:=hw1.symm) | (go_at_call 42;refine (doF_no _ _ _ (by decide) _).mono ?_;rintro _ w2 ⟨rfl,hw2⟩;obtain rfl:=hw2.symm))
  go_ret
  rw [HE.out]
  exact ⟨rfl,FqP.same HH.out (by first | exact ((Kept.refl _ _).alloc _).setCell (.inr (by simp)) _ | exact (Kept.refl _ _).alloc _)⟩
 cases hF:findF n d.L with
 | none =>
   have HE:Hid (synF n d=(d,8)):=by show _=_;unfold synF;rw [hdd,hF];rfl
   rw [fnP_none hdd hF] at cF
   clear h hb
   go_enter Try.func12,Try.ntmps12
   go_wp2_with (first | (go_at_call 41;refine cF.out.mono ?_;clear cF;rintro _ w1 ⟨rfl,hw1⟩;obtain rfl:=hw1.symm) | (go_at_call 42;refine (doF_no _ _ _ (by decide) _).mono ?_;rintro _ w2 ⟨rfl,hw2⟩;obtain rfl:=hw2.symm))
   go_ret
   rw [HE.out]
   exact ⟨rfl,FqP.same HH.out (by first | exact ((Kept.refl _ _).alloc _).setCell (.inr (by simp)) _ | exact (Kept.refl _ _).alloc _)⟩
 | some i =>
   have HE:=hide (synF_ok hdd hF)
   rw [fnP_some hdd hF] at cF
   have hcD:∀ w1 cb,Kept [] w w1→w.heap.size≤cb→w1.cell? ⟨cb,0,none⟩=some (plP X (some i))→Calls Try.prog 42 #[.pointer (some ⟨p,0,none⟩),.int .i64 0,.func (.func 43) #[] #[.pointer (some ⟨cb,0,none⟩)]] w1 fun e w'=>e=.returned (.int .i64 (synF n d).2)∧FqP p w1 O (synF n d).1 w':=fun w1 cb k1 hcb hc=>by
    rw [HE.out]
    refine doF_call (h.kept k1 (by simp)) hb.s hb.f _ enterSyn _ ⟨updF d.L i (fun x=>⟨x.n,x.b,x.b.length⟩),(stepF d).1.s,(stepF d).1.f,(stepF d).1.d⟩ (fun _ W q' hW kW=>?_)
    refine (syn1_call hW (by rw [stepF_L];exact hF) cb (kW.cell hc (by simp;have:=h.h.lt;omega))).mono ?_
    rintro _ w' ⟨rfl,hu⟩
    rw [stepF_L] at hu
    exact ⟨rfl,hu.fq⟩
   have cD:=hide hcD
   obtain ⟨hi,_,_,_⟩:=h.got hF
   rw [plP_some hi] at cF cD
   generalize X[i].k=g at *
   clear h hb hcD
   go_enter Try.func12,Try.ntmps12
   go_wp2_with (first | (go_at_call 41;refine cF.out.mono ?_;clear cF;rintro _ w1 ⟨rfl,hw1⟩;obtain rfl:=hw1.symm) | (go_at_call 42;refine (cD.out _ _ (by first | exact ((Kept.refl _ _).alloc _).setCell (.inr (by simp)) _ | exact (Kept.refl _ _).alloc _) (by simp) (by simp)).mono ?_;clear cD;rintro _ w2 ⟨rfl,hq⟩;have HQ:=hide hq;clear hq))
   go_ret
   exact ⟨rfl,FqP.trans (Kept.mono (S:=[]) (by first | exact ((Kept.refl _ _).alloc _).setCell (.inr (by simp)) _ | exact (Kept.refl _ _).alloc _) (by simp)) (fun _ hk=>.inl hk) HQ.out⟩
end
end Go.Proofs.Yteiagkjhmhllnaa
