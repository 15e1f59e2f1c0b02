/-
  Texts of this claim that are laid as one: ArgB, RowsG, EnArgs.
-/
import Derived.Test.YtakafmejllilnaaGreatRows
import Derived.Test.YtakafmejllilnaaGreatProg
import Derived.ProofKit
import Derived.OpenShut
import Derived.ShutString
import Derived.ChangeMaps5
import Derived.ChangeOld
import Derived.SizedLaws
import Derived.Deep.Slices
import Derived.Test.YtakafmejllilnaaGreatF2
/-
 What is asked of the program itself when arguments are opened.
-/
namespace Go.Proofs.YtakafmejllilnaaGreat
open Go.ChangeShapes Go.WideShapes Go.ChangeAt Go.RowKit Go.Deep
theorem ownK:ownKnob Tryz.prog.godebug=none:=by kernel_rfl
theorem laidOut:laidOutB Tryz.prog=true:=by kernel_rfl
theorem cellsI:Tryz.prog.cellsOf 3=1:=by kernel_rfl
theorem cellsU:Tryz.prog.cellsOf 31=1:=by kernel_rfl
theorem cellsS:Tryz.prog.cellsOf 9=1:=by kernel_rfl
theorem cellsF:Tryz.prog.cellsOf 4=1:=by kernel_rfl
end Go.Proofs.YtakafmejllilnaaGreat
namespace Go.Proofs.YtakafmejllilnaaGreat
open Go.ChangeShapes Go.WideShapes Go.ChangeAt Go.RowKit Go.Deep
theorem light_field {H:Type}{P:Program}{t:TypeId}{fs:Array Field}{xs:List (DataW H × List MemPlace)}(hu:P.underlying t=some (.struct fs)) (hw:∀ m∈(DataW.agg (xs.map (·.1))).weights P t,m≤reachBytes) {j:Nat}{f:Field}{y:DataW H × List MemPlace}(hf:fs[j]?=some f) (hx:xs[j]?=some y):∀ m∈y.1.weights P f.type,m≤reachBytes:=fun m hm =>
 hw m (by
  simp only [DataW.weights,hu]
  exact DataW.weights_mem_each (j:=j) (t:=f.type) (d:=y.1) (by simp [hf]) (by simp [hx]) m hm)
theorem weights_mem_all {H:Type}{P:Program}{e:TypeId}:∀ {l:List (DataW H)}{d:DataW H},d∈l→∀ n∈d.weights P e,n∈DataW.weightsAll P e l
 | d0 :: l,d,hd,n,hn=>by
   simp only [DataW.weightsAll,List.mem_append]
   rcases List.mem_cons.1 hd with rfl | hd
   ·exact .inl hn
   ·exact .inr (weights_mem_all hd n hn)
theorem open_rows {H:Type}{enc:TypeId × Value→H}{W:World}{base:Nat}{sp:Nat→Bool}{held:Bool}{α:Type}{t e:TypeId}(ht:Tryz.prog.underlying t=some (.slice e)) {k:Nat}(hk:Tryz.prog.cellsOf e=k) (hk0:0 < k) (z:α) (Rl:α→List Value→Prop)
 (hone:∀ (fuel:Nat) (cs:List Value) (x:DataW H × List MemPlace),DataW.trod enc Tryz.prog W base sp held fuel e cs=some x→(∀ m∈x.1.weights Tryz.prog e,m≤reachBytes)→∃ t:α,Rl t cs∧cs.length=k)
 {fuel:Nat}{a:Option Addr}{len cap:Nat}{x:DataW H × List MemPlace}(h:DataW.trod enc Tryz.prog W base sp held fuel t [.slice a len cap]=some x) (hw:∀ m∈x.1.weights Tryz.prog t,m≤reachBytes) :
 ∃ L:List α,L.length=len∧len≤cap∧cap≤maxLen∧(a=none→cap=0)∧len*Tryz.prog.bytesOf e≤reachBytes∧∀ i (hi:i < L.length),∃ b o cs,a=some ⟨b,o,none⟩∧Rl L[i] cs∧∀ j,j < k→W.cell? ⟨b,o+i*k+j,none⟩=cs[j]?:=by
 rcases open_slice ht h with ⟨hcs,_⟩ | ⟨ad,l,c,m,n,D,Pl,hcs,_,hl,hm,hmm,rfl,hx⟩
 ·simp at hcs
  obtain ⟨rfl,rfl,rfl⟩:=hcs
  exact ⟨[],rfl,Nat.le_refl _,Nat.zero_le _,fun _=>rfl,by simp,fun i hi=>by simp at hi⟩
 ·simp at hcs
  obtain ⟨rfl,rfl,rfl⟩:=hcs
  have hle:len≤m:=by rw [hmm];split <;> omega
  rw [hk] at hx
  have hwt:∀ i,i < len→∀ q∈(D i).weights Tryz.prog e,q≤reachBytes:=fun i hi q hq=>hw q (by
   simp only [DataW.weights,ht,List.mem_cons,List.mem_append]
   exact .inr (.inl (weights_mem_all (List.mem_map.2 ⟨i,by simpa using hi,rfl⟩) q hq)))
  have hby:len*Tryz.prog.bytesOf e≤reachBytes:=by
   have:=hw ((len+(m - len))*Tryz.prog.bytesOf e) (by simp [DataW.weights,ht])
   exact Nat.le_trans (Nat.mul_le_mul_right _ (by omega)) this
  have each:∀ i,i < len→∃ t:α,∃ b o cs,some ad=some (⟨b,o,none⟩:Addr)∧Rl t cs∧∀ j,j < k→W.cell? ⟨b,o+i*k+j,none⟩=cs[j]?:=by
   intro i hi
   obtain ⟨cs,h1,h2⟩:=hx i (by omega)
   obtain ⟨t,hR,hcl⟩:=hone _ _ _ h2 (hwt i hi)
   obtain ⟨_,_,hc⟩:=World.cells?_some h1
   obtain ⟨b,o,spot⟩:=ad
   have hspot:spot=none:=by
    have h3:=hc 0 (by omega)
    obtain ⟨v,hv⟩:∃ v,cs[0]?=some v:=⟨_,List.getElem?_eq_getElem (by omega)⟩
    rw [hv] at h3
    have h4:=World.cell?_spot h3
    by_cases h0:i=0
    ·subst h0;simpa [Addr.add] using h4
    ·obtain ⟨cs0,h5,h6⟩:=hx 0 (by omega)
     obtain ⟨t0,_,hcl0⟩:=hone _ _ _ h6 (hwt 0 (by omega))
     obtain ⟨_,_,hc0⟩:=World.cells?_some h5
     have h7:=hc0 0 (by omega)
     obtain ⟨v0,hv0⟩:∃ v,cs0[0]?=some v:=⟨_,List.getElem?_eq_getElem (by omega)⟩
     rw [hv0] at h7
     have h8:=World.cell?_spot h7
     simpa [Addr.add] using h8
   subst hspot
   refine ⟨t,b,o,cs,rfl,hR,fun j hj=>?_⟩
   have h8:=hc j hj
   rw [adr_addC,adr_addC] at h8
   exact h8
  obtain ⟨f,hf⟩:∃ f:Nat→α,∀ i,i < len→∃ b o cs,some ad=some (⟨b,o,none⟩:Addr)∧Rl (f i) cs∧∀ j,j < k→W.cell? ⟨b,o+i*k+j,none⟩=cs[j]?:=by
   refine ⟨fun i=>if hi:i < len then Classical.choose (each i hi) else z,fun i hi=>?_⟩
   simp only [dif_pos hi]
   exact Classical.choose_spec (each i hi)
  refine ⟨(List.range len).map f,by simp,hl,hm,by simp,hby,fun i hi=>?_⟩
  simp at hi
  obtain ⟨b,o,cs,h9,h10,h11⟩:=hf i hi
  exact ⟨b,o,cs,h9,by simpa using h10,h11⟩
end Go.Proofs.YtakafmejllilnaaGreat
namespace Go.Proofs.YtakafmejllilnaaGreat
open Go.ChangeShapes Go.WideShapes Go.ChangeAt Go.RowKit Go.Deep
def I64 (x:Int):Prop:=-9223372036854775808≤x∧x≤9223372036854775807
def U64 (x:Int):Prop:=0≤x∧x≤18446744073709551615
def inC (x:Ch):Prop:=okC x∧U64 x.d
def inK (x:Com):Prop:=x.n.length≤140737488351232∧x.c.length≤4398046510976∧∀ y∈x.c,inC y
def inV (v:Vt):Prop:=v.p.length≤140737488351232∧v.k.length≤2513169434843∧(∀ x∈v.k,inK x)∧I64 v.r∧U64 v.d
def inR (r:Rq):Prop:=∀ y∈r.c,inC y
theorem cellsOf_Change:Tryz.prog.cellsOf 134=3:=by kernel_rfl
theorem cellsOf_Request:Tryz.prog.cellsOf 29=11:=by kernel_rfl
theorem cellsLC:Tryz.prog.cellsOf 27=1:=by kernel_rfl
theorem bytesC:Tryz.prog.bytesOf 134=32:=by kernel_rfl
set_option maxRecDepth 100000 in
theorem open_changeR {H:Type}{enc:TypeId × Value→H}{W:World}{base:Nat}{sp:Nat→Bool}{held:Bool}{fuel:Nat}{cs:List Value}{x:DataW H × List MemPlace}
 (h:DataW.trod enc Tryz.prog W base sp held fuel 134 cs=some x) (hw:∀ m∈x.1.weights Tryz.prog 134,m≤reachBytes):∃ t:Ch,cs=chC t∧inC t:=by
 obtain ⟨xs,n,rfl,rfl,hlen,hxs,hf⟩:=DataW.trod_struct Tryz.underlying134 h
 rw [cellsOf_Change] at hlen
 match cs,hlen with
 | [v0,v1,v2],_ =>
   match xs,hxs with
   | [y0,y1,y2],_ =>
     have f0:DataW.trod enc Tryz.prog W base sp held n 9 [v0]=some y0:=by
      have h:DataW.trod enc Tryz.prog W base sp held n 9 (([v0,v1,v2].drop 0).take (Tryz.prog.cellsOf 9))=some y0:=hf 0 _ rfl
      rw [cellsS] at h
      exact h
     have w0:∀ m∈y0.1.weights Tryz.prog 9,m≤reachBytes:=light_field Tryz.underlying134 hw (j:=0) rfl rfl
     have f1:DataW.trod enc Tryz.prog W base sp held n 4 [v1]=some y1:=by
      have h:DataW.trod enc Tryz.prog W base sp held n 4 (([v0,v1,v2].drop 1).take (Tryz.prog.cellsOf 4))=some y1:=hf 1 _ rfl
      rw [cellsF] at h
      exact h
     have w1:∀ m∈y1.1.weights Tryz.prog 4,m≤reachBytes:=light_field Tryz.underlying134 hw (j:=1) rfl rfl
     have f2:DataW.trod enc Tryz.prog W base sp held n 31 [v2]=some y2:=by
      have h:DataW.trod enc Tryz.prog W base sp held n 31 (([v0,v1,v2].drop 2).take (Tryz.prog.cellsOf 31))=some y2:=hf 2 _ rfl
      rw [cellsU] at h
      exact h
     have w2:∀ m∈y2.1.weights Tryz.prog 31,m≤reachBytes:=light_field Tryz.underlying134 hw (j:=2) rfl rfl
     obtain ⟨s0,e0,rfl,_⟩:=DataW.trod_string Tryz.underlying9 f0
     have l0:s0.data.toList.length≤140737488351232:=by have:=w0 s0.data.toList.length (by simp [DataW.weights]);unfold reachBytes at this;omega
     obtain ⟨b1,e1,_⟩:=DataW.trod_bool Tryz.underlying4 f1
     obtain ⟨d2,e2,_,o2⟩:=DataW.trod_int Tryz.underlying31 f2
     simp at e0 e1 e2
     subst e0;subst e1;subst e2
     exact ⟨⟨s0.data.toList,b1,d2⟩,by simp only [chC];rw [← str_of s0],l0,bounds_u64 o2⟩
theorem open_changesR {H:Type}{enc:TypeId × Value→H}{W:World}{base:Nat}{sp:Nat→Bool}{held:Bool}{fuel:Nat}{a:Option Addr}{len cap:Nat}{x:DataW H × List MemPlace}
 (h:DataW.trod enc Tryz.prog W base sp held fuel 27 [.slice a len cap]=some x) (hw:∀ m∈x.1.weights Tryz.prog 27,m≤reachBytes):∃ L,SlC W a len cap L∧(a=none→cap=0)∧L.length≤4398046510976∧∀ y∈L,inC y:=by
 obtain ⟨L,h1,h2,h3,h4,h5,h6⟩:=open_rows Tryz.underlying27 cellsOf_Change (by omega) (⟨[],false,0⟩:Ch) (fun t cs=>cs=chC t∧inC t) (fun _ _ _ h hw=>by obtain ⟨t,e,ho⟩:=open_changeR h hw;exact ⟨t,⟨e,ho⟩,by rw [e];rfl⟩) h hw
 rw [bytesC] at h5
 unfold reachBytes at h5
 refine ⟨L,⟨h1,h2,h3,fun i hi=>?_⟩,h4,by omega,fun y hy=>?_⟩
 ·obtain ⟨b,o,cs,e,⟨rfl,_⟩,hc⟩:=h6 i hi
  exact ⟨b,o,e,hc 0 (by omega),hc 1 (by omega),hc 2 (by omega)⟩
 ·obtain ⟨i,hi,rfl⟩:=List.getElem_of_mem hy
  obtain ⟨b,o,cs,e,⟨_,ho⟩,hc⟩:=h6 i hi
  exact ho
set_option maxRecDepth 100000 in
theorem open_requestR {H:Type}{enc:TypeId × Value→H}{W:World}{base:Nat}{sp:Nat→Bool}{held:Bool}{fuel:Nat}{cs:List Value}{x:DataW H × List MemPlace}
 (h:DataW.trod enc Tryz.prog W base sp held fuel 29 cs=some x) (hw:∀ m∈x.1.weights Tryz.prog 29,m≤reachBytes):∃ t:Rm,cs=rqC t∧RqIn W t∧inR t.r:=by
 obtain ⟨xs,n,rfl,rfl,hlen,hxs,hf⟩:=DataW.trod_struct Tryz.underlying29 h
 rw [cellsOf_Request] at hlen
 match cs,hlen with
 | [v0,v1,v2,v3,v4,v5,v6,v7,v8,v9,v10],_ =>
   match xs,hxs with
   | [y0,y1,y2,y3,y4,y5,y6,y7,y8,y9,y10],_ =>
     have f0:DataW.trod enc Tryz.prog W base sp held n 3 [v0]=some y0:=by
      have h:DataW.trod enc Tryz.prog W base sp held n 3 (([v0,v1,v2,v3,v4,v5,v6,v7,v8,v9,v10].drop 0).take (Tryz.prog.cellsOf 3))=some y0:=hf 0 _ rfl
      rw [cellsI] at h
      exact h
     have f1:DataW.trod enc Tryz.prog W base sp held n 9 [v1]=some y1:=by
      have h:DataW.trod enc Tryz.prog W base sp held n 9 (([v0,v1,v2,v3,v4,v5,v6,v7,v8,v9,v10].drop 1).take (Tryz.prog.cellsOf 9))=some y1:=hf 1 _ rfl
      rw [cellsS] at h
      exact h
     have w1:∀ m∈y1.1.weights Tryz.prog 9,m≤reachBytes:=light_field Tryz.underlying29 hw (j:=1) rfl rfl
     have f2:DataW.trod enc Tryz.prog W base sp held n 3 [v2]=some y2:=by
      have h:DataW.trod enc Tryz.prog W base sp held n 3 (([v0,v1,v2,v3,v4,v5,v6,v7,v8,v9,v10].drop 2).take (Tryz.prog.cellsOf 3))=some y2:=hf 2 _ rfl
      rw [cellsI] at h
      exact h
     have f3:DataW.trod enc Tryz.prog W base sp held n 3 [v3]=some y3:=by
      have h:DataW.trod enc Tryz.prog W base sp held n 3 (([v0,v1,v2,v3,v4,v5,v6,v7,v8,v9,v10].drop 3).take (Tryz.prog.cellsOf 3))=some y3:=hf 3 _ rfl
      rw [cellsI] at h
      exact h
     have f4:DataW.trod enc Tryz.prog W base sp held n 3 [v4]=some y4:=by
      have h:DataW.trod enc Tryz.prog W base sp held n 3 (([v0,v1,v2,v3,v4,v5,v6,v7,v8,v9,v10].drop 4).take (Tryz.prog.cellsOf 3))=some y4:=hf 4 _ rfl
      rw [cellsI] at h
      exact h
     have f5:DataW.trod enc Tryz.prog W base sp held n 9 [v5]=some y5:=by
      have h:DataW.trod enc Tryz.prog W base sp held n 9 (([v0,v1,v2,v3,v4,v5,v6,v7,v8,v9,v10].drop 5).take (Tryz.prog.cellsOf 9))=some y5:=hf 5 _ rfl
      rw [cellsS] at h
      exact h
     have w5:∀ m∈y5.1.weights Tryz.prog 9,m≤reachBytes:=light_field Tryz.underlying29 hw (j:=5) rfl rfl
     have f6:DataW.trod enc Tryz.prog W base sp held n 27 [v6]=some y6:=by
      have h:DataW.trod enc Tryz.prog W base sp held n 27 (([v0,v1,v2,v3,v4,v5,v6,v7,v8,v9,v10].drop 6).take (Tryz.prog.cellsOf 27))=some y6:=hf 6 _ rfl
      rw [cellsLC] at h
      exact h
     have w6:∀ m∈y6.1.weights Tryz.prog 27,m≤reachBytes:=light_field Tryz.underlying29 hw (j:=6) rfl rfl
     have f7:DataW.trod enc Tryz.prog W base sp held n 9 [v7]=some y7:=by
      have h:DataW.trod enc Tryz.prog W base sp held n 9 (([v0,v1,v2,v3,v4,v5,v6,v7,v8,v9,v10].drop 7).take (Tryz.prog.cellsOf 9))=some y7:=hf 7 _ rfl
      rw [cellsS] at h
      exact h
     have w7:∀ m∈y7.1.weights Tryz.prog 9,m≤reachBytes:=light_field Tryz.underlying29 hw (j:=7) rfl rfl
     have f8:DataW.trod enc Tryz.prog W base sp held n 3 [v8]=some y8:=by
      have h:DataW.trod enc Tryz.prog W base sp held n 3 (([v0,v1,v2,v3,v4,v5,v6,v7,v8,v9,v10].drop 8).take (Tryz.prog.cellsOf 3))=some y8:=hf 8 _ rfl
      rw [cellsI] at h
      exact h
     have f9:DataW.trod enc Tryz.prog W base sp held n 3 [v9]=some y9:=by
      have h:DataW.trod enc Tryz.prog W base sp held n 3 (([v0,v1,v2,v3,v4,v5,v6,v7,v8,v9,v10].drop 9).take (Tryz.prog.cellsOf 3))=some y9:=hf 9 _ rfl
      rw [cellsI] at h
      exact h
     have f10:DataW.trod enc Tryz.prog W base sp held n 3 [v10]=some y10:=by
      have h:DataW.trod enc Tryz.prog W base sp held n 3 (([v0,v1,v2,v3,v4,v5,v6,v7,v8,v9,v10].drop 10).take (Tryz.prog.cellsOf 3))=some y10:=hf 10 _ rfl
      rw [cellsI] at h
      exact h
     obtain ⟨d0,e0,_,o0⟩:=DataW.trod_int Tryz.underlying3 f0
     obtain ⟨s1,e1,rfl,_⟩:=DataW.trod_string Tryz.underlying9 f1
     obtain ⟨d2,e2,_,o2⟩:=DataW.trod_int Tryz.underlying3 f2
     obtain ⟨d3,e3,_,o3⟩:=DataW.trod_int Tryz.underlying3 f3
     obtain ⟨d4,e4,_,o4⟩:=DataW.trod_int Tryz.underlying3 f4
     obtain ⟨s5,e5,rfl,_⟩:=DataW.trod_string Tryz.underlying9 f5
     have hv6:∃ a l c,v6=.slice a l c:=by
      rcases DataW.trod_slice Tryz.underlying27 f6 with ⟨h0,_⟩ | ⟨a,l,c,_,_,_,_,h0,_⟩
      ·simp at h0;exact ⟨_,_,_,h0⟩
      ·simp at h0;exact ⟨_,_,_,h0⟩
     obtain ⟨a,l,c,rfl⟩:=hv6
     obtain ⟨s7,e7,rfl,_⟩:=DataW.trod_string Tryz.underlying9 f7
     obtain ⟨d8,e8,_,o8⟩:=DataW.trod_int Tryz.underlying3 f8
     obtain ⟨d9,e9,_,o9⟩:=DataW.trod_int Tryz.underlying3 f9
     obtain ⟨d10,e10,_,o10⟩:=DataW.trod_int Tryz.underlying3 f10
     simp at e0 e1 e2 e3 e4 e5 e7 e8 e9 e10
     subst e0;subst e1;subst e2;subst e3;subst e4;subst e5;subst e7;subst e8;subst e9;subst e10
     obtain ⟨L,hs,hn,hl,ho⟩:=open_changesR f6 w6
     exact ⟨⟨⟨d0,s1.data.toList,d2,d3,d4,s5.data.toList,L,s7.data.toList,d8,d9,d10⟩,a,l,c⟩,by simp only [rqC];rw [← str_of s1,← str_of s5,← str_of s7],⟨hs,hn,bounds_i64 o3,bounds_i64 o8,bounds_i64 o9⟩,ho⟩
theorem cellsOf_Commit:Tryz.prog.cellsOf 108=4:=by kernel_rfl
theorem cellsOf_Verdict:Tryz.prog.cellsOf 34=7:=by kernel_rfl
theorem cellsLK:Tryz.prog.cellsOf 32=1:=by kernel_rfl
theorem bytesK:Tryz.prog.bytesOf 108=56:=by kernel_rfl
set_option maxRecDepth 100000 in
theorem open_commitR {H:Type}{enc:TypeId × Value→H}{W:World}{base:Nat}{sp:Nat→Bool}{held:Bool}{fuel:Nat}{cs:List Value}{x:DataW H × List MemPlace}
 (h:DataW.trod enc Tryz.prog W base sp held fuel 108 cs=some x) (hw:∀ m∈x.1.weights Tryz.prog 108,m≤reachBytes):∃ t:Com × Value,cs=coC t∧ChV W t.2 t.1.c∧inK t.1:=by
 obtain ⟨xs,n,rfl,rfl,hlen,hxs,hf⟩:=DataW.trod_struct Tryz.underlying108 h
 rw [cellsOf_Commit] at hlen
 match cs,hlen with
 | [v0,v1,v2,v3],_ =>
   match xs,hxs with
   | [y0,y1,y2,y3],_ =>
     have f0:DataW.trod enc Tryz.prog W base sp held n 3 [v0]=some y0:=by
      have h:DataW.trod enc Tryz.prog W base sp held n 3 (([v0,v1,v2,v3].drop 0).take (Tryz.prog.cellsOf 3))=some y0:=hf 0 _ rfl
      rw [cellsI] at h
      exact h
     have w0:∀ m∈y0.1.weights Tryz.prog 3,m≤reachBytes:=light_field Tryz.underlying108 hw (j:=0) rfl rfl
     have f1:DataW.trod enc Tryz.prog W base sp held n 3 [v1]=some y1:=by
      have h:DataW.trod enc Tryz.prog W base sp held n 3 (([v0,v1,v2,v3].drop 1).take (Tryz.prog.cellsOf 3))=some y1:=hf 1 _ rfl
      rw [cellsI] at h
      exact h
     have w1:∀ m∈y1.1.weights Tryz.prog 3,m≤reachBytes:=light_field Tryz.underlying108 hw (j:=1) rfl rfl
     have f2:DataW.trod enc Tryz.prog W base sp held n 9 [v2]=some y2:=by
      have h:DataW.trod enc Tryz.prog W base sp held n 9 (([v0,v1,v2,v3].drop 2).take (Tryz.prog.cellsOf 9))=some y2:=hf 2 _ rfl
      rw [cellsS] at h
      exact h
     have w2:∀ m∈y2.1.weights Tryz.prog 9,m≤reachBytes:=light_field Tryz.underlying108 hw (j:=2) rfl rfl
     have f3:DataW.trod enc Tryz.prog W base sp held n 27 [v3]=some y3:=by
      have h:DataW.trod enc Tryz.prog W base sp held n 27 (([v0,v1,v2,v3].drop 3).take (Tryz.prog.cellsOf 27))=some y3:=hf 3 _ rfl
      rw [cellsLC] at h
      exact h
     have w3:∀ m∈y3.1.weights Tryz.prog 27,m≤reachBytes:=light_field Tryz.underlying108 hw (j:=3) rfl rfl
     obtain ⟨d0,e0,_,_⟩:=DataW.trod_int Tryz.underlying3 f0
     obtain ⟨d1,e1,_,_⟩:=DataW.trod_int Tryz.underlying3 f1
     obtain ⟨s2,e2,rfl,_⟩:=DataW.trod_string Tryz.underlying9 f2
     have l2:s2.data.toList.length≤140737488351232:=by have:=w2 s2.data.toList.length (by simp [DataW.weights]);unfold reachBytes at this;omega
     have hv3:∃ a l c,v3=.slice a l c:=by
      rcases DataW.trod_slice Tryz.underlying27 f3 with ⟨h0,_⟩ | ⟨a,l,c,_,_,_,_,h0,_⟩
      ·simp at h0;exact ⟨_,_,_,h0⟩
      ·simp at h0;exact ⟨_,_,_,h0⟩
     obtain ⟨a,l,c,rfl⟩:=hv3
     simp at e0 e1 e2
     subst e0;subst e1;subst e2
     obtain ⟨L,hs,hn,hl,ho⟩:=open_changesR f3 w3
     exact ⟨(⟨d0,d1,s2.data.toList,L⟩,.slice a l c),by simp only [coC];rw [← str_of s2],⟨a,l,c,rfl,hs,hn⟩,l2,hl,ho⟩
theorem open_commitsR {H:Type}{enc:TypeId × Value→H}{W:World}{base:Nat}{sp:Nat→Bool}{held:Bool}{fuel:Nat}{a:Option Addr}{len cap:Nat}{x:DataW H × List MemPlace}
 (h:DataW.trod enc Tryz.prog W base sp held fuel 32 [.slice a len cap]=some x) (hw:∀ m∈x.1.weights Tryz.prog 32,m≤reachBytes):∃ K,SlK W a len cap K∧(a=none→cap=0)∧K.length≤2513169434843∧∀ y∈K,inK y.1:=by
 obtain ⟨L,h1,h2,h3,h4,h5,h6⟩:=open_rows Tryz.underlying32 cellsOf_Commit (by omega) ((⟨0,0,[],[]⟩,.slice none 0 0):Com × Value) (fun t cs=>cs=coC t∧ChV W t.2 t.1.c∧inK t.1) (fun _ _ _ h hw=>by obtain ⟨t,e,ho⟩:=open_commitR h hw;exact ⟨t,⟨e,ho⟩,by rw [e];rfl⟩) h hw
 rw [bytesK] at h5
 unfold reachBytes at h5
 refine ⟨L,⟨h1,h2,h3,fun i hi=>?_,fun y hy=>?_⟩,h4,by omega,fun y hy=>?_⟩
 ·obtain ⟨b,o,cs,e,⟨rfl,_⟩,hc⟩:=h6 i hi
  exact ⟨b,o,e,hc 0 (by omega),hc 1 (by omega),hc 2 (by omega),hc 3 (by omega)⟩
 ·obtain ⟨i,hi,rfl⟩:=List.getElem_of_mem hy
  obtain ⟨b,o,cs,e,⟨_,ho,_⟩,hc⟩:=h6 i hi
  exact ho
 ·obtain ⟨i,hi,rfl⟩:=List.getElem_of_mem hy
  obtain ⟨b,o,cs,e,⟨_,_,ho⟩,hc⟩:=h6 i hi
  exact ho
def vtLA (v:Vt) (u:Value):List Value:=[.int .i64 v.c,.int .i64 v.s,.int .i64 v.r,.string (str v.p),.int .u64 v.d,u,.int .i64 v.m]
set_option maxRecDepth 100000 in
theorem open_verdictR {H:Type}{enc:TypeId × Value→H}{W:World}{base:Nat}{sp:Nat→Bool}{held:Bool}{fuel:Nat}{cs:List Value}{x:DataW H × List MemPlace}
 (h:DataW.trod enc Tryz.prog W base sp held fuel 34 cs=some x) (hw:∀ m∈x.1.weights Tryz.prog 34,m≤reachBytes):∃ (t:Vt) (u:Value),cs=vtLA t u∧KoV W u t.k∧inV t:=by
 obtain ⟨xs,n,rfl,rfl,hlen,hxs,hf⟩:=DataW.trod_struct Tryz.underlying34 h
 rw [cellsOf_Verdict] at hlen
 match cs,hlen with
 | [v0,v1,v2,v3,v4,v5,v6],_ =>
   match xs,hxs with
   | [y0,y1,y2,y3,y4,y5,y6],_ =>
     have f0:DataW.trod enc Tryz.prog W base sp held n 3 [v0]=some y0:=by
      have h:DataW.trod enc Tryz.prog W base sp held n 3 (([v0,v1,v2,v3,v4,v5,v6].drop 0).take (Tryz.prog.cellsOf 3))=some y0:=hf 0 _ rfl
      rw [cellsI] at h
      exact h
     have w0:∀ m∈y0.1.weights Tryz.prog 3,m≤reachBytes:=light_field Tryz.underlying34 hw (j:=0) rfl rfl
     have f1:DataW.trod enc Tryz.prog W base sp held n 3 [v1]=some y1:=by
      have h:DataW.trod enc Tryz.prog W base sp held n 3 (([v0,v1,v2,v3,v4,v5,v6].drop 1).take (Tryz.prog.cellsOf 3))=some y1:=hf 1 _ rfl
      rw [cellsI] at h
      exact h
     have w1:∀ m∈y1.1.weights Tryz.prog 3,m≤reachBytes:=light_field Tryz.underlying34 hw (j:=1) rfl rfl
     have f2:DataW.trod enc Tryz.prog W base sp held n 3 [v2]=some y2:=by
      have h:DataW.trod enc Tryz.prog W base sp held n 3 (([v0,v1,v2,v3,v4,v5,v6].drop 2).take (Tryz.prog.cellsOf 3))=some y2:=hf 2 _ rfl
      rw [cellsI] at h
      exact h
     have w2:∀ m∈y2.1.weights Tryz.prog 3,m≤reachBytes:=light_field Tryz.underlying34 hw (j:=2) rfl rfl
     have f3:DataW.trod enc Tryz.prog W base sp held n 9 [v3]=some y3:=by
      have h:DataW.trod enc Tryz.prog W base sp held n 9 (([v0,v1,v2,v3,v4,v5,v6].drop 3).take (Tryz.prog.cellsOf 9))=some y3:=hf 3 _ rfl
      rw [cellsS] at h
      exact h
     have w3:∀ m∈y3.1.weights Tryz.prog 9,m≤reachBytes:=light_field Tryz.underlying34 hw (j:=3) rfl rfl
     have f4:DataW.trod enc Tryz.prog W base sp held n 31 [v4]=some y4:=by
      have h:DataW.trod enc Tryz.prog W base sp held n 31 (([v0,v1,v2,v3,v4,v5,v6].drop 4).take (Tryz.prog.cellsOf 31))=some y4:=hf 4 _ rfl
      rw [cellsU] at h
      exact h
     have w4:∀ m∈y4.1.weights Tryz.prog 31,m≤reachBytes:=light_field Tryz.underlying34 hw (j:=4) rfl rfl
     have f5:DataW.trod enc Tryz.prog W base sp held n 32 [v5]=some y5:=by
      have h:DataW.trod enc Tryz.prog W base sp held n 32 (([v0,v1,v2,v3,v4,v5,v6].drop 5).take (Tryz.prog.cellsOf 32))=some y5:=hf 5 _ rfl
      rw [cellsLK] at h
      exact h
     have w5:∀ m∈y5.1.weights Tryz.prog 32,m≤reachBytes:=light_field Tryz.underlying34 hw (j:=5) rfl rfl
     have f6:DataW.trod enc Tryz.prog W base sp held n 3 [v6]=some y6:=by
      have h:DataW.trod enc Tryz.prog W base sp held n 3 (([v0,v1,v2,v3,v4,v5,v6].drop 6).take (Tryz.prog.cellsOf 3))=some y6:=hf 6 _ rfl
      rw [cellsI] at h
      exact h
     have w6:∀ m∈y6.1.weights Tryz.prog 3,m≤reachBytes:=light_field Tryz.underlying34 hw (j:=6) rfl rfl
     obtain ⟨d0,e0,_,_⟩:=DataW.trod_int Tryz.underlying3 f0
     obtain ⟨d1,e1,_,_⟩:=DataW.trod_int Tryz.underlying3 f1
     obtain ⟨d2,e2,_,o2⟩:=DataW.trod_int Tryz.underlying3 f2
     obtain ⟨s3,e3,rfl,_⟩:=DataW.trod_string Tryz.underlying9 f3
     have l3:s3.data.toList.length≤140737488351232:=by have:=w3 s3.data.toList.length (by simp [DataW.weights]);unfold reachBytes at this;omega
     obtain ⟨d4,e4,_,o4⟩:=DataW.trod_int Tryz.underlying31 f4
     have hv5:∃ a l c,v5=.slice a l c:=by
      rcases DataW.trod_slice Tryz.underlying32 f5 with ⟨h0,_⟩ | ⟨a,l,c,_,_,_,_,h0,_⟩
      ·simp at h0;exact ⟨_,_,_,h0⟩
      ·simp at h0;exact ⟨_,_,_,h0⟩
     obtain ⟨a,l,c,rfl⟩:=hv5
     obtain ⟨d6,e6,_,_⟩:=DataW.trod_int Tryz.underlying3 f6
     simp at e0 e1 e2 e3 e4 e6
     subst e0;subst e1;subst e2;subst e3;subst e4;subst e6
     obtain ⟨K,hs,hn,hl,ho⟩:=open_commitsR f5 w5
     exact ⟨⟨d0,d1,d2,s3.data.toList,d4,K.map Prod.fst,d6⟩,.slice a l c,by simp only [vtLA];rw [← str_of s3],⟨a,l,c,K,rfl,hs,rfl,hn⟩,l3,by simpa using hl,(fun y hy=>by obtain ⟨z,hz,rfl⟩:=List.mem_map.1 hy;exact ho z hz),bounds_i64 o2,bounds_u64 o4⟩
end Go.Proofs.YtakafmejllilnaaGreat
