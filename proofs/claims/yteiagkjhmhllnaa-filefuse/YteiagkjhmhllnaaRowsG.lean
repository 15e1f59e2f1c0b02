/-
  Rows of structs that came in, within the reach of memory.
-/
import Derived.Test.YteiagkjhmhllnaaArgB
import Derived.Test.YteiagkjhmhllnaaMemG
namespace Go.Proofs.Yteiagkjhmhllnaa
open Go.ChangeShapes Go.WideShapes Go.ChangeAt Go.RowKit Go.Deep
theorem light_field {H:Type}{P:Program}{t:TypeId}{fs:Array Field}{xs:List (DataW H × List MemPlace)}(hu:P.underlying t=some (.struct fs)) (hw:∀ m∈(DataW.agg (xs.map (·.1))).weights P t,m≤reachBytes) {j:Nat}{f:Field}{y:DataW H × List MemPlace}(hf:fs[j]?=some f) (hx:xs[j]?=some y):∀ m∈y.1.weights P f.type,m≤reachBytes:=fun m hm =>
 hw m (by
  simp only [DataW.weights,hu]
  exact DataW.weights_mem_each (j:=j) (t:=f.type) (d:=y.1) (by simp [hf]) (by simp [hx]) m hm)
theorem weights_mem_all {H:Type}{P:Program}{e:TypeId}:∀ {l:List (DataW H)}{d:DataW H},d∈l→∀ n∈d.weights P e,n∈DataW.weightsAll P e l
 | d0 :: l,d,hd,n,hn=>by
   simp only [DataW.weightsAll,List.mem_append]
   rcases List.mem_cons.1 hd with rfl | hd
   ·exact .inl hn
   ·exact .inr (weights_mem_all hd n hn)
theorem open_rows {H:Type}{enc:TypeId × Value→H}{W:World}{base:Nat}{sp:Nat→Bool}{held:Bool}{α:Type}{t e:TypeId}(ht:Try.prog.underlying t=some (.slice e)) {k:Nat}(hk:Try.prog.cellsOf e=k) (hk0:0 < k) (z:α) (Rl:α→List Value→Prop)
 (hone:∀ (fuel:Nat) (cs:List Value) (x:DataW H × List MemPlace),DataW.trod enc Try.prog W base sp held fuel e cs=some x→(∀ m∈x.1.weights Try.prog e,m≤reachBytes)→∃ t:α,Rl t cs∧cs.length=k)
 {fuel:Nat}{a:Option Addr}{len cap:Nat}{x:DataW H × List MemPlace}(h:DataW.trod enc Try.prog W base sp held fuel t [.slice a len cap]=some x) (hw:∀ m∈x.1.weights Try.prog t,m≤reachBytes) :
 ∃ L:List α,L.length=len∧len≤cap∧cap≤maxLen∧(a=none→cap=0)∧len*Try.prog.bytesOf e≤reachBytes∧∀ i (hi:i < L.length),∃ b o cs,a=some ⟨b,o,none⟩∧Rl L[i] cs∧∀ j,j < k→W.cell? ⟨b,o+i*k+j,none⟩=cs[j]?:=by
 rcases open_slice ht h with ⟨hcs,_⟩ | ⟨ad,l,c,m,n,D,Pl,hcs,_,hl,hm,hmm,rfl,hx⟩
 ·simp at hcs
  obtain ⟨rfl,rfl,rfl⟩:=hcs
  exact ⟨[],rfl,Nat.le_refl _,Nat.zero_le _,fun _=>rfl,by simp,fun i hi=>by simp at hi⟩
 ·simp at hcs
  obtain ⟨rfl,rfl,rfl⟩:=hcs
  have hle:len≤m:=by rw [hmm];split <;> omega
  rw [hk] at hx
  have hwt:∀ i,i < len→∀ q∈(D i).weights Try.prog e,q≤reachBytes:=fun i hi q hq=>hw q (by
   simp only [DataW.weights,ht,List.mem_cons,List.mem_append]
   exact .inr (.inl (weights_mem_all (List.mem_map.2 ⟨i,by simpa using hi,rfl⟩) q hq)))
  have hby:len*Try.prog.bytesOf e≤reachBytes:=by
   have:=hw ((len+(m - len))*Try.prog.bytesOf e) (by simp [DataW.weights,ht])
   exact Nat.le_trans (Nat.mul_le_mul_right _ (by omega)) this
  have each:∀ i,i < len→∃ t:α,∃ b o cs,some ad=some (⟨b,o,none⟩:Addr)∧Rl t cs∧∀ j,j < k→W.cell? ⟨b,o+i*k+j,none⟩=cs[j]?:=by
   intro i hi
   obtain ⟨cs,h1,h2⟩:=hx i (by omega)
   obtain ⟨t,hR,hcl⟩:=hone _ _ _ h2 (hwt i hi)
   obtain ⟨_,_,hc⟩:=World.cells?_some h1
   obtain ⟨b,o,spot⟩:=ad
   have hspot:spot=none:=by
    have h3:=hc 0 (by omega)
    obtain ⟨v,hv⟩:∃ v,cs[0]?=some v:=⟨_,List.getElem?_eq_getElem (by omega)⟩
    rw [hv] at h3
    have h4:=World.cell?_spot h3
    by_cases h0:i=0
    ·subst h0;simpa [Addr.add] using h4
    ·obtain ⟨cs0,h5,h6⟩:=hx 0 (by omega)
     obtain ⟨t0,_,hcl0⟩:=hone _ _ _ h6 (hwt 0 (by omega))
     obtain ⟨_,_,hc0⟩:=World.cells?_some h5
     have h7:=hc0 0 (by omega)
     obtain ⟨v0,hv0⟩:∃ v,cs0[0]?=some v:=⟨_,List.getElem?_eq_getElem (by omega)⟩
     rw [hv0] at h7
     have h8:=World.cell?_spot h7
     simpa [Addr.add] using h8
   subst hspot
   refine ⟨t,b,o,cs,rfl,hR,fun j hj=>?_⟩
   have h8:=hc j hj
   rw [adr_addC,adr_addC] at h8
   exact h8
  obtain ⟨f,hf⟩:∃ f:Nat→α,∀ i,i < len→∃ b o cs,some ad=some (⟨b,o,none⟩:Addr)∧Rl (f i) cs∧∀ j,j < k→W.cell? ⟨b,o+i*k+j,none⟩=cs[j]?:=by
   refine ⟨fun i=>if hi:i < len then Classical.choose (each i hi) else z,fun i hi=>?_⟩
   simp only [dif_pos hi]
   exact Classical.choose_spec (each i hi)
  refine ⟨(List.range len).map f,by simp,hl,hm,by simp,hby,fun i hi=>?_⟩
  simp at hi
  obtain ⟨b,o,cs,h9,h10,h11⟩:=hf i hi
  exact ⟨b,o,cs,h9,by simpa using h10,h11⟩
end Go.Proofs.Yteiagkjhmhllnaa
