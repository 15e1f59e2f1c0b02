/-
  The program's disk: Truncate, Steps, Dead, Fuse, Read.
-/
import Derived.Test.YteiagkjhmhllnaaFpSyn
namespace Go.Proofs.Yteiagkjhmhllnaa
open Go.RowKit
section
variable {w : World} {O : List Nat} {p mb : Nat} {q : Int} {d : Dk} {X : List Pm}
theorem AtP.has (h:AtP w O p mb q d X) {n:List UInt8}{i:Nat}(hf:findF n d.L=some i) (k:Int) :
 ∃ g,plP X (some i)=.pointer (some ⟨g,0,none⟩)∧Calls Try.prog 52 #[.pointer (some ⟨g,0,none⟩),.int .i64 k] w fun e w'=>e=.returned (.bool (decide (0≤k) && decide (k≤((d.L.getD i ⟨[],[],0⟩).b.length:Int))))∧w'=w:=by
 obtain ⟨hi,hL,hn,he⟩:=h.got hf
 have hx:X[i]∈X:=List.getElem_mem hi
 have e:(d.L.getD i ⟨[],[],0⟩).b.length=X[i].b.length:=by rw [List.getD,List.getElem?_eq_getElem hL,Option.getD_some,he];rfl
 rw [e]
 exact ⟨X[i].k,plP_some hi,hasF_call w X[i].k X[i].b.length X[i].c X[i].ao X[i].l k (h.c _ hx)⟩
set_option maxHeartbeats 2000000 in
set_option maxRecDepth 100000 in
theorem truP_call (h:AtP w O p mb q d X) (hb:BdD d) (n:List UInt8) (hn:n.length≤1000000) (k:Int) :
 Calls Try.prog 20 #[.pointer (some ⟨p,0,none⟩),.string (str n),.int .i64 k] w fun e w'=>e=.returned (.int .i64 (truF n k d).2)∧FqP p w O (truF n k d).1 w':=by
 have HH:=hide h
 have cF:=hide (fun W (kw:Kept [] w W)=>fndF_call (h.kept kw (by simp)) n hn)
 have hmf:=makeF
 cases hdd:d.d
 rotate_left
 ·have HE:Hid (truF n k d=(d,7)):=by show _=_;unfold truF;rw [if_pos hdd]
  rw [fnP_dead hdd] at cF
  clear h hb
  go_enter Try.func20,Try.ntmps20
  go_wp2_with (first | (go_at_call 41;refine (cF.out _ ((Kept.refl _ _).alloc _)).mono ?_;clear cF;rintro _ w1 ⟨rfl,hw1⟩;obtain rfl:=hw1.symm) | (go_at_call 42;refine (doF_no _ _ _ (by decide) _).mono ?_;rintro _ w2 ⟨rfl,hw2⟩;obtain rfl:=hw2.symm))
  go_ret
  rw [HE.out]
  exact ⟨rfl,FqP.same HH.out (by first | exact (((Kept.refl _ _).alloc _).alloc _).setCell (.inr (by simp)) _ | exact ((Kept.refl _ _).alloc _).alloc _)⟩
 cases hF:findF n d.L with
 | none =>
   have HE:Hid (truF n k d=(d,8)):=by show _=_;unfold truF;rw [hdd,hF];rfl
   rw [fnP_none hdd hF] at cF
   clear h hb
   go_enter Try.func20,Try.ntmps20
   go_wp2_with (first | (go_at_call 41;refine (cF.out _ ((Kept.refl _ _).alloc _)).mono ?_;clear cF;rintro _ w1 ⟨rfl,hw1⟩;obtain rfl:=hw1.symm) | (go_at_call 42;refine (doF_no _ _ _ (by decide) _).mono ?_;rintro _ w2 ⟨rfl,hw2⟩;obtain rfl:=hw2.symm))
   go_ret
   rw [HE.out]
   exact ⟨rfl,FqP.same HH.out (by first | exact (((Kept.refl _ _).alloc _).alloc _).setCell (.inr (by simp)) _ | exact ((Kept.refl _ _).alloc _).alloc _)⟩
 | some i =>
   rw [fnP_some hdd hF] at cF
   obtain ⟨hi,hiL,_,he⟩:=h.got hF
   have eL:d.L.getD i ⟨[],[],0⟩=d.L[i]:=by rw [List.getD,List.getElem?_eq_getElem hiL,Option.getD_some]
   have cH:∀ W,Kept [] w W→_:=fun W kw=>(h.kept (w':=W) kw (by simp)).has hF k
   rw [eL] at cH
   rw [plP_some hi] at cF
   have hcH:∀ W,Kept [] w W→Calls Try.prog 52 #[.pointer (some ⟨X[i].k,0,none⟩),.int .i64 k] W fun e w'=>e=.returned (.bool (decide (0≤k) && decide (k≤(d.L[i].b.length:Int))))∧w'=W:=fun W kw=>by
    obtain ⟨g,hg,hc⟩:=cH W kw
    rw [plP_some hi] at hg
    cases hg
    exact hc
   clear cH
   by_cases hk:k < 0∨(d.L[i].b.length:Int) < k
   ·have HE:=hide (truF_no (k:=k) hdd hF hiL hk)
    have hbl:(decide (0≤k) && decide (k≤(d.L[i].b.length:Int)))=false:=by
     rcases hk with h1 | h1
     ·simp;omega
     ·simp;omega
    rw [hbl] at hcH
    have CH:=hide hcH
    generalize X[i].k=g at *
    clear h hb hcH hbl hk eL he
    go_enter Try.func20,Try.ntmps20
    go_wp2_with (first | (go_at_call 41;refine (cF.out _ ((Kept.refl _ _).alloc _)).mono ?_;clear cF;rintro _ w1 ⟨rfl,hw1⟩;obtain rfl:=hw1.symm) | (go_at_call 52;refine (CH.out _ (by first | exact (((Kept.refl _ _).alloc _).alloc _).setCell (.inr (by simp)) _ | exact ((Kept.refl _ _).alloc _).alloc _)).mono ?_;clear CH;rintro _ w1 ⟨rfl,hw1⟩;obtain rfl:=hw1.symm) | (go_at_call 42;refine (doF_no _ _ _ (by decide) _).mono ?_;rintro _ w2 ⟨rfl,hw2⟩;obtain rfl:=hw2.symm))
    go_ret
    rw [HE.out]
    exact ⟨rfl,FqP.same HH.out (by first | exact (((Kept.refl _ _).alloc _).alloc _).setCell (.inr (by simp)) _ | exact ((Kept.refl _ _).alloc _).alloc _)⟩
   ·have HE:=hide (truF_ok (k:=k) hdd hF hiL hk)
    obtain ⟨kk,rfl⟩:∃ kk:Nat,k=kk:=Int.eq_ofNat_of_zero_le (by omega)
    have hkl:kk≤d.L[i].b.length:=by omega
    rw [Int.toNat_natCast] at HE
    have hbl:(decide (0≤(kk:Int)) && decide ((kk:Int)≤(d.L[i].b.length:Int)))=true:=by simp;omega
    rw [hbl] at hcH
    have CH:=hide hcH
    have hcD:∀ w1 cb kb,Kept [] w w1→w.heap.size≤cb→w.heap.size≤kb→w1.cell? ⟨cb,0,none⟩=some (plP X (some i))→w1.cell? ⟨kb,0,none⟩=some (.int .i64 kk)→Calls Try.prog 42 #[.pointer (some ⟨p,0,none⟩),.int .i64 0,.func (.func 53) #[] #[.pointer (some ⟨cb,0,none⟩),.pointer (some ⟨kb,0,none⟩)]] w1 fun e w'=>e=.returned (.int .i64 (truF n kk d).2)∧FqP p w1 O (truF n kk d).1 w':=fun w1 cb kb k1 hcb hkb hc hck=>by
     rw [HE.out]
     refine doF_call (h.kept k1 (by simp)) hb.s hb.f _ enterTru _ ⟨updF d.L i (fun x=>⟨x.n,x.b.take kk,min x.l kk⟩),(stepF d).1.s,(stepF d).1.f,(stepF d).1.d⟩ (fun _ W q' hW kW=>?_)
     refine (tru1_call hW (by rw [stepF_L];exact hF) (by rw [stepF_L];exact hb.b) kk (fun hL=>?_) cb kb (kW.cell hc (by simp;have:=h.h.lt;omega)) (kW.cell hck (by simp;have:=h.h.lt;omega))).mono ?_
     ·rw [List.getElem_of_eq (stepF_L d) hL];exact hkl
     rintro _ w' ⟨rfl,hu⟩
     rw [stepF_L] at hu
     exact ⟨rfl,hu.fq⟩
    have cD:=hide hcD
    rw [plP_some hi] at cD
    generalize X[i].k=g at *
    clear h hb hcH hcD hbl hk eL he hkl
    go_enter Try.func20,Try.ntmps20
    go_wp2_with (first | (go_at_call 41;refine (cF.out _ ((Kept.refl _ _).alloc _)).mono ?_;clear cF;rintro _ w1 ⟨rfl,hw1⟩;obtain rfl:=hw1.symm) | (go_at_call 52;refine (CH.out _ (by first | exact (((Kept.refl _ _).alloc _).alloc _).setCell (.inr (by simp)) _ | exact ((Kept.refl _ _).alloc _).alloc _)).mono ?_;clear CH;rintro _ w1 ⟨rfl,hw1⟩;obtain rfl:=hw1.symm) | (go_at_call 42;refine (cD.out _ _ _ (by first | exact (((Kept.refl _ _).alloc _).alloc _).setCell (.inr (by simp)) _ | exact ((Kept.refl _ _).alloc _).alloc _) (by simp) (by simp) (by simp) (by simp)).mono ?_;clear cD;rintro _ w2 ⟨rfl,hq⟩;have HQ:=hide hq;clear hq))
    go_ret
    exact ⟨rfl,FqP.trans (Kept.mono (S:=[]) (by first | exact (((Kept.refl _ _).alloc _).alloc _).setCell (.inr (by simp)) _ | exact ((Kept.refl _ _).alloc _).alloc _) (by simp)) (fun _ hk=>.inl hk) HQ.out⟩
set_option maxRecDepth 100000 in
theorem stsP_call (h:AtP w O p mb q d X):Calls Try.prog 15 #[.pointer (some ⟨p,0,none⟩)] w fun e w'=>e=.returned (.int .i64 d.s)∧w'=w:=by
 have cM:=hide (madeF_call h)
 have c1:=h.h.cell 1 rfl
 clear h
 go_enter Try.func15,Try.ntmps15
 go_wp2_with (go_at_call 35;refine cM.out.mono ?_;clear cM;rintro _ w1 ⟨rfl,hw1⟩;obtain rfl:=hw1.symm)
 go_ret
 exact ⟨rfl,rfl⟩
set_option maxRecDepth 100000 in
theorem dedP_call (h:AtP w O p mb q d X):Calls Try.prog 14 #[.pointer (some ⟨p,0,none⟩)] w fun e w'=>e=.returned (.bool d.d)∧w'=w:=by
 have cM:=hide (madeF_call h)
 have c1:=h.h.cell 3 rfl
 clear h
 go_enter Try.func14,Try.ntmps14
 go_wp2_with (go_at_call 35;refine cM.out.mono ?_;clear cM;rintro _ w1 ⟨rfl,hw1⟩;obtain rfl:=hw1.symm)
 go_ret
 exact ⟨rfl,rfl⟩
set_option maxRecDepth 100000 in
theorem armP_call (h:AtP w O p mb q d X) (k:Int):Calls Try.prog 10 #[.pointer (some ⟨p,0,none⟩),.int .i64 k] w fun e w'=>e=.returned (.tuple #[])∧FqP p w O (armF k d) w':=by
 have HH:=hide h
 have cM:=hide (madeF_call h)
 have c3:=h.h.cell 3 rfl
 have HB:=hide h.h
 cases hdd:d.d
 ·have HE:Hid (armF k d=⟨d.L,d.s,max k (-1),d.d⟩):=by show _=_;unfold armF;rw [hdd];rfl
  rw [hdd] at c3
  have z2:=h.h.froz 2
  have c2:=h.h.cell 2 rfl
  clear h
  go_enter Try.func10,Try.ntmps10
  go_wp2_with (go_at_call 35;refine cM.out.mono ?_;clear cM;rintro _ w1 ⟨rfl,hw1⟩;obtain rfl:=hw1.symm)
  go_end0
  rw [HE.out]
  have k2:Kept [p] w (w.setCell ⟨p,2,none⟩ (.int .i64 k)):=(Kept.refl _ _).setCell (by simp) _
  exact ⟨rfl,(HH.out.head (d':=⟨d.L,d.s,max k (-1),d.d⟩) (q':=k) (HB.out.set 2 _) k2 rfl rfl).fq (k2.mono (by simp [HH.out.pO])) (fun _ hk=>.inl hk)⟩
 ·have HE:Hid (armF k d=d):=by show _=_;unfold armF;rw [if_pos hdd]
  rw [hdd] at c3
  clear h
  go_enter Try.func10,Try.ntmps10
  go_wp2_with (go_at_call 35;refine cM.out.mono ?_;clear cM;rintro _ w1 ⟨rfl,hw1⟩;obtain rfl:=hw1.symm)
  go_end0
  rw [HE.out]
  exact ⟨rfl,FqP.same HH.out (Kept.refl _ _)⟩
def RedP (w:World) (o:Option (List Int)) (e:Ending) (w':World):Prop :=
 Kept [] w w'∧match o with
  | none=>e=.returned (.tuple #[.slice none 0 0,.bool false])
  | some L=>∃ a c,e=.returned (.tuple #[.slice a L.length c,.bool true])∧Own w' (.slice a L.length c) L∧∀ k,(Value.slice a L.length c).ownBlock=some k→w.heap.size≤k
def redF (n:List UInt8) (d:Dk):Option (List Int):=(findF n d.L).map fun i=>(d.L.getD i ⟨[],[],0⟩).b
set_option maxHeartbeats 1000000 in
set_option maxRecDepth 100000 in
theorem redP_call (h:AtP w O p mb q d X) (hb:BdD d) (n:List UInt8) (hn:n.length≤1000000):Calls Try.prog 13 #[.pointer (some ⟨p,0,none⟩),.string (str n)] w fun e w'=>RedP w (redF n d) e w':=by
 have cL:=hide (lookF_call h n hn)
 cases hF:findF n d.L with
 | none =>
   have HE:Hid (redF n d=none):=by show _=_;unfold redF;rw [hF];rfl
   rw [hF] at cL
   clear h hb
   go_enter Try.func13,Try.ntmps13
   go_wp2_with (go_at_call 45;refine cL.out.mono ?_;clear cL;rintro _ w1 ⟨rfl,hw1⟩;obtain rfl:=hw1.symm;unfold plP)
   go_ret2
   rw [HE.out]
   exact ⟨Kept.refl _ _,rfl⟩
 | some i =>
   obtain ⟨hi,hiL,_,he⟩:=h.got hF
   have hx:X[i]∈X:=List.getElem_mem hi
   have HE:Hid (redF n d=some X[i].b):=by show _=_;unfold redF;rw [hF,Option.map_some,List.getD,List.getElem?_eq_getElem hiL,Option.getD_some,he];rfl
   have hbl:X[i].b.length≤10000000000:=by have:=hb.b d.L[i] (List.getElem_mem hiL);rw [he] at this;exact this
   obtain ⟨ao,c,hv,_,_,hsl⟩:=mkown (h.o _ hx)
   have c0:=(h.c _ hx).cell 0 rfl
   rw [hv] at c0
   have cC:=hide (bcloneF_call w ao _ c _ hsl (by omega))
   rw [hF,plP_some hi] at cL
   generalize X[i].k=g at *
   generalize X[i].b=L at *
   clear h hb hv hsl
   go_enter Try.func13,Try.ntmps13
   go_wp2_with (first | (go_at_call 45;refine cL.out.mono ?_;clear cL;rintro _ w1 ⟨rfl,hw1⟩;obtain rfl:=hw1.symm) | (go_at_call 46;refine cC.out.mono ?_;clear cC;rintro _ w4 ⟨a1,k1,rfl,hO4,hf4,hk4⟩;have HK4:=hide hk4;have HO4:=hide hO4;have HF4:=hide hf4;clear hO4 hf4 hk4))
   go_ret2
   rw [HE.out]
   exact ⟨HK4.out,a1,k1,rfl,HO4.out,HF4.out⟩
end
end Go.Proofs.Yteiagkjhmhllnaa
