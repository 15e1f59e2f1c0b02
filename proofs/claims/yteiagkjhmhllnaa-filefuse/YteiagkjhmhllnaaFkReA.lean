/-
  FileRenames: what the disk comes to.
-/
import Derived.Test.YteiagkjhmhllnaaFpOne
import Derived.Test.YteiagkjhmhllnaaFdArgs
namespace Go.Proofs.Yteiagkjhmhllnaa
open Go.RowKit
theorem and_le (x:Int) (m:Nat) (hm:m≤1000):∃ n:Nat,n≤m∧bits .and .i64 x m=n:=by
 have h1:(BitVec.ofInt 64 x &&& BitVec.ofInt 64 (m:Int)).toNat≤m:=by
  rw [BitVec.toNat_and]
  refine Nat.le_trans Nat.and_le_right ?_
  rw [BitVec.ofInt_natCast,BitVec.toNat_ofNat]
  exact Nat.mod_le _ _
 refine ⟨(BitVec.ofInt 64 x &&& BitVec.ofInt 64 (m:Int)).toNat,h1,?_⟩
 show IntKind.i64.wrap _=_
 rw [IntKind.wrap_i64]
 show (((BitVec.ofInt 64 x &&& BitVec.ofInt 64 (m:Int)).toNat:Int)+_) % _ - _=_
 omega
theorem keptF_all {x:Fl}(h:x.l=x.b.length) (k:Int):keptF x k=x.b.length:=by
 unfold keptF
 split <;> omega
theorem red_all {L L':List Fl}{s f:Int}{dd:Bool}{old:List Int}{n:List UInt8}(K:List Int) (h:L=⟨n,old,old.length⟩ :: L'):redF n (crsF K ⟨L,s,f,dd⟩)=some old:=by
 subst h
 have h1:∀ k,old.take (keptF ⟨n,old,old.length⟩ k)=old:=fun k=>by rw [keptF_all rfl];exact List.take_length
 have h2:∀ (m:Nat) (M:List Fl),findF n (⟨n,old,m⟩ :: M)=some 0:=fun m M=>by unfold findF;rw [List.findIdx?_cons];simp
 cases K with
 | nil=>simp [redF,crsF,crsL,h2]
 | cons k K=>simp [redF,crsF,crsL,h1,h2]
def rA (old:List Int):Fl:=⟨[97],old,old.length⟩
def rn1 (old:List Int):Dk:=⟨[⟨[97],old,0⟩],1,-1,false⟩
def rn2 (old:List Int) (f:Int):Dk:=⟨[rA old],2,f,false⟩
def rn3 (old fresh:List Int) (s f:Int) (l:Nat) (dd:Bool):Dk:=⟨[rA old,⟨[98],fresh,l⟩],s,f,dd⟩
theorem rb_1 {old:List Int}(h:old.length≤3000):BdD (rn1 old):=bdd_mk (by decide) (by decide) (by simp) (fun x hx=>by simp at hx;subst hx;simp;omega)
theorem rb_2 {old:List Int}(h:old.length≤3000) {f:Int}(hf:-1≤f∧f≤3):BdD (rn2 old f):=bdd_mk (by decide) ⟨hf.1,by omega⟩ (by simp) (fun x hx=>by simp [rA] at hx;subst hx;simp;omega)
theorem rb_3 {old fresh:List Int}(h:old.length≤3000) (h2:fresh.length≤3000) {s f:Int}{l:Nat}{dd:Bool}(hs:0≤s∧s≤10) (hf:-1≤f∧f≤3) (hl:l≤fresh.length):BdD (rn3 old fresh s f l dd) :=
 bdd_mk ⟨hs.1,by omega⟩ ⟨hf.1,by omega⟩ (by simp) (fun x hx=>by simp [rA] at hx;rcases hx with rfl | rfl <;> simp <;> omega)
theorem rb_4 {fresh:List Int}(h2:fresh.length≤3000) {s f:Int}{dd:Bool}(hs:0≤s∧s≤10) (hf:-1≤f∧f≤3):BdD ⟨[rA fresh],s,f,dd⟩ :=
 bdd_mk ⟨hs.1,by omega⟩ ⟨hf.1,by omega⟩ (by simp) (fun x hx=>by simp [rA] at hx;subst hx;simp;omega)
theorem crs_bd {d:Dk}(h:BdD d) (K:List Int) (hn:d.L.length≤10) (hL:∀ x∈d.L,x.b.length≤10000):BdD (crsF K d):=by
 have h1:(crsL d.L K).length=d.L.length:=by have:=congrArg List.length (crsL_names d.L K);simpa using this
 refine bdd_mk (by decide) (by decide) (by omega) ?_
 have hl:=h.l
 clear h h1 hn
 generalize d.L=L at *
 induction L generalizing K with
 | nil=>intro x hx;cases K <;> cases hx
 | cons y L ih =>
   intro x hx
   have hy:=hL y (by simp)
   have hly:=hl y (by simp)
   cases K with
   | nil =>
     simp only [crsL] at hx
     rcases List.mem_cons.1 hx with rfl | hx
     ·simp;omega
     ·exact ih [] (fun z hz=>hL z (by simp [hz])) (fun z hz=>hl z (by simp [hz])) x hx
   | cons k K =>
     simp only [crsL] at hx
     rcases List.mem_cons.1 hx with rfl | hx
     ·have:=keptF_le y k hly
      simp;omega
     ·exact ih K (fun z hz=>hL z (by simp [hz])) (fun z hz=>hl z (by simp [hz])) x hx
theorem rn_1 (old:List Int):appF [97] old ⟨[],0,-1,false⟩=(rn1 old,0):=rfl
theorem rn_2 (old:List Int):synF [97] (rn1 old)=(rn2 old (-1),0):=rfl
theorem rn_3 (old:List Int) (z:Nat):armF z (rn2 old (-1))=rn2 old z:=by
 unfold armF rn2
 simp only [Bool.false_eq_true,if_false]
 congr 1
 omega
theorem rs0a (old fresh:List Int):appF [98] fresh (rn2 old 0)=(rn3 old fresh 3 0 0 true,7):=rfl
theorem rs1a (old fresh:List Int):appF [98] fresh (rn2 old 1)=(rn3 old fresh 3 0 0 false,0):=rfl
theorem rs2a (old fresh:List Int):appF [98] fresh (rn2 old 2)=(rn3 old fresh 3 1 0 false,0):=rfl
theorem rs3a (old fresh:List Int):appF [98] fresh (rn2 old 3)=(rn3 old fresh 3 2 0 false,0):=rfl
theorem rs1b (old fresh:List Int):synF [98] (rn3 old fresh 3 0 0 false)=(rn3 old fresh 4 0 0 true,7):=rfl
theorem rs2b (old fresh:List Int):synF [98] (rn3 old fresh 3 1 0 false)=(rn3 old fresh 4 0 fresh.length false,0):=rfl
theorem rs3b (old fresh:List Int):synF [98] (rn3 old fresh 3 2 0 false)=(rn3 old fresh 4 1 fresh.length false,0):=rfl
theorem rs2c (old fresh:List Int):renF [98] [97] (rn3 old fresh 4 0 fresh.length false)=(rn3 old fresh 5 0 fresh.length true,7):=rfl
theorem rs3c (old fresh:List Int):renF [98] [97] (rn3 old fresh 4 1 fresh.length false)=(⟨[rA fresh],5,0,false⟩,0):=rfl
end Go.Proofs.Yteiagkjhmhllnaa
