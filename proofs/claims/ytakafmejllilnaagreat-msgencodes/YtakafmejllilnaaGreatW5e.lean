/-
  Texts laid as one.
-/
import Derived.Test.YtakafmejllilnaaGreatRows
import Derived.Test.YtakafmejllilnaaGreatProg
import Derived.ProofKit
import Derived.OpenShut
import Derived.ShutString
import Derived.ChangeMaps5
import Derived.ChangeOld
import Derived.SizedLaws
import Derived.Deep.Slices
import Derived.Test.YtakafmejllilnaaGreatF2e
import Derived.Test.YtakafmejllilnaaGreatF3e
import Derived.Test.YtakafmejllilnaaGreatF1e
import Derived.Test.YtakafmejllilnaaGreatF4e
set_option maxHeartbeats 2000000
set_option maxRecDepth 100000
/-
 What is asked of the program itself when arguments are opened.
-/
namespace Go.Proofs.YtakafmejllilnaaGreat
open Go.ChangeShapes Go.WideShapes Go.ChangeAt Go.RowKit Go.Deep
theorem xw:ownKnob Tryz.prog.godebug=none:=by kernel_rfl
theorem sJ:laidOutB Tryz.prog=true:=by kernel_rfl
theorem ct:Tryz.prog.cellsOf 3=1:=by kernel_rfl
theorem rG:Tryz.prog.cellsOf 31=1:=by kernel_rfl
theorem iZ:Tryz.prog.cellsOf 9=1:=by kernel_rfl
theorem vQ:Tryz.prog.cellsOf 4=1:=by kernel_rfl
end Go.Proofs.YtakafmejllilnaaGreat
namespace Go.Proofs.YtakafmejllilnaaGreat
open Go.ChangeShapes Go.WideShapes Go.ChangeAt Go.RowKit Go.Deep
theorem aE {H:Type}{P:Program}{t:TypeId}{fs:Array Field}{xs:List (DataW H × List MemPlace)}(hu:P.underlying t=some (.struct fs)) (hw:∀ m∈(DataW.agg (xs.map (·.1))).weights P t,m≤reachBytes) {j:Nat}{f:Field}{y:DataW H × List MemPlace}(hf:fs[j]?=some f) (hx:xs[j]?=some y):∀ m∈y.1.weights P f.type,m≤reachBytes:=fun m hm =>
 hw m (by
  simp only [DataW.weights,hu];exact DataW.weights_mem_each (j:=j) (t:=f.type) (d:=y.1) (by simp [hf]) (by simp [hx]) m hm)
theorem gf {H:Type}{P:Program}{e:TypeId}:∀ {l:List (DataW H)}{d:DataW H},d∈l→∀ n∈d.weights P e,n∈DataW.weightsAll P e l
 | d0 :: l,d,hd,n,hn=>by
   simp only [DataW.weightsAll,List.mem_append];rcases List.mem_cons.1 hd with rfl | hd
   ·exact .inl hn
   ·exact .inr (gf hd n hn)
theorem i9 {H:Type}{enc:TypeId × Value→H}{W:World}{base:Nat}{sp:Nat→Bool}{held:Bool}{α:Type}{t e:TypeId}(ht:Tryz.prog.underlying t=some (.slice e)) {k:Nat}(hk:Tryz.prog.cellsOf e=k) (hk0:0 < k) (z:α) (Rl:α→List Value→Prop)
 (hone:∀ (fuel:Nat) (cs:List Value) (x:DataW H × List MemPlace),DataW.trod enc Tryz.prog W base sp held fuel e cs=some x→(∀ m∈x.1.weights Tryz.prog e,m≤reachBytes)→∃ t:α,Rl t cs∧cs.length=k)
 {fuel:Nat}{a:Option Addr}{len cap:Nat}{x:DataW H × List MemPlace}(h:DataW.trod enc Tryz.prog W base sp held fuel t [.slice a len cap]=some x) (hw:∀ m∈x.1.weights Tryz.prog t,m≤reachBytes) :
 ∃ L:List α,L.length=len∧len≤cap∧cap≤maxLen∧(a=none→cap=0)∧len*Tryz.prog.bytesOf e≤reachBytes∧∀ i (hi:i < L.length),∃ b o cs,a=some ⟨b,o,none⟩∧Rl L[i] cs∧∀ j,j < k→W.cell? ⟨b,o+i*k+j,none⟩=cs[j]?:=by
 rcases open_slice ht h with ⟨hcs,_⟩ | ⟨ad,l,c,m,n,D,Pl,hcs,_,hl,hm,hmm,rfl,hx⟩
 ·simp at hcs
  obtain ⟨rfl,rfl,rfl⟩:=hcs;exact ⟨[],rfl,Nat.le_refl _,Nat.zero_le _,fun _=>rfl,by simp,fun i hi=>by simp at hi⟩
 ·simp at hcs
  obtain ⟨rfl,rfl,rfl⟩:=hcs;have hle:len≤m:=by rw [hmm];split <;> omega
  rw [hk] at hx
  have hwt:∀ i,i < len→∀ q∈(D i).weights Tryz.prog e,q≤reachBytes:=fun i hi q hq=>hw q (by
   simp only [DataW.weights,ht,List.mem_cons,List.mem_append];exact .inr (.inl (gf (List.mem_map.2 ⟨i,by simpa using hi,rfl⟩) q hq)))
  have hby:len*Tryz.prog.bytesOf e≤reachBytes:=by
   have:=hw ((len+(m - len))*Tryz.prog.bytesOf e) (by simp [DataW.weights,ht])
   exact Nat.le_trans (Nat.mul_le_mul_right _ (by omega)) this
  have each:∀ i,i < len→∃ t:α,∃ b o cs,some ad=some (⟨b,o,none⟩:Addr)∧Rl t cs∧∀ j,j < k→W.cell? ⟨b,o+i*k+j,none⟩=cs[j]?:=by
   intro i hi;obtain ⟨cs,h1,h2⟩:=hx i (by omega);obtain ⟨t,hR,hcl⟩:=hone _ _ _ h2 (hwt i hi);obtain ⟨_,_,hc⟩:=World.cells?_some h1;obtain ⟨b,o,spot⟩:=ad
   have hspot:spot=none:=by
    have h3:=hc 0 (by omega);obtain ⟨v,hv⟩:∃ v,cs[0]?=some v:=⟨_,List.getElem?_eq_getElem (by omega)⟩;rw [hv] at h3;have h4:=World.cell?_spot h3;by_cases h0:i=0
    ·subst h0;simpa [Addr.add] using h4
    ·obtain ⟨cs0,h5,h6⟩:=hx 0 (by omega);obtain ⟨t0,_,hcl0⟩:=hone _ _ _ h6 (hwt 0 (by omega));obtain ⟨_,_,hc0⟩:=World.cells?_some h5;have h7:=hc0 0 (by omega);obtain ⟨v0,hv0⟩:∃ v,cs0[0]?=some v:=⟨_,List.getElem?_eq_getElem (by omega)⟩;rw [hv0] at h7;have h8:=World.cell?_spot h7;simpa [Addr.add] using h8
   subst hspot;refine ⟨t,b,o,cs,rfl,hR,fun j hj=>?_⟩;have h8:=hc j hj;rw [gv,gv] at h8;exact h8
  obtain ⟨f,hf⟩:∃ f:Nat→α,∀ i,i < len→∃ b o cs,some ad=some (⟨b,o,none⟩:Addr)∧Rl (f i) cs∧∀ j,j < k→W.cell? ⟨b,o+i*k+j,none⟩=cs[j]?:=by
   refine ⟨fun i=>if hi:i < len then Classical.choose (each i hi) else z,fun i hi=>?_⟩;simp only [dif_pos hi];exact Classical.choose_spec (each i hi)
  refine ⟨(List.range len).map f,by simp,hl,hm,by simp,hby,fun i hi=>?_⟩;simp at hi
  obtain ⟨b,o,cs,h9,h10,h11⟩:=hf i hi;exact ⟨b,o,cs,h9,by simpa using h10,h11⟩
end Go.Proofs.YtakafmejllilnaaGreat
namespace Go.Proofs.YtakafmejllilnaaGreat
open Go.ChangeShapes Go.WideShapes Go.ChangeAt Go.RowKit Go.Deep
def xW (x:Int):Prop:=-9223372036854775808≤x∧x≤9223372036854775807
def xL (x:Int):Prop:=0≤x∧x≤18446744073709551615
def xt (x:Ch):Prop:=yy x∧xL x.d
def xu (x:ch):Prop:=x.n.length≤140737488351232∧x.c.length≤4398046510976∧∀ y∈x.c,xt y
def xx (v:Vt):Prop:=v.p.length≤140737488351232∧v.k.length≤2513169434843∧(∀ x∈v.k,xu x)∧xW v.r∧xL v.d
theorem gh:Tryz.prog.cellsOf 134=3:=by kernel_rfl
theorem ez:Tryz.prog.cellsOf 29=11:=by kernel_rfl
theorem o9:Tryz.prog.cellsOf 27=1:=by kernel_rfl
theorem vz:Tryz.prog.bytesOf 134=32:=by kernel_rfl
theorem lV {H:Type}{enc:TypeId × Value→H}{W:World}{base:Nat}{sp:Nat→Bool}{held:Bool}{fuel:Nat}{cs:List Value}{x:DataW H × List MemPlace}
 (h:DataW.trod enc Tryz.prog W base sp held fuel 134 cs=some x) (hw:∀ m∈x.1.weights Tryz.prog 134,m≤reachBytes):∃ t:Ch,cs=ew t∧xt t:=by
 obtain ⟨xs,n,rfl,rfl,hlen,hxs,hf⟩:=DataW.trod_struct Tryz.underlying134 h;rw [gh] at hlen;match cs,hlen with
 | [v0,v1,v2],_ =>
   match xs,hxs with
   | [y0,y1,y2],_ =>
     have f0:DataW.trod enc Tryz.prog W base sp held n 9 [v0]=some y0:=by
      have h:DataW.trod enc Tryz.prog W base sp held n 9 (([v0,v1,v2].drop 0).take (Tryz.prog.cellsOf 9))=some y0:=hf 0 _ rfl;rw [iZ] at h;exact h
     have w0:∀ m∈y0.1.weights Tryz.prog 9,m≤reachBytes:=aE Tryz.underlying134 hw (j:=0) rfl rfl
     have f1:DataW.trod enc Tryz.prog W base sp held n 4 [v1]=some y1:=by
      have h:DataW.trod enc Tryz.prog W base sp held n 4 (([v0,v1,v2].drop 1).take (Tryz.prog.cellsOf 4))=some y1:=hf 1 _ rfl;rw [vQ] at h;exact h
     have w1:∀ m∈y1.1.weights Tryz.prog 4,m≤reachBytes:=aE Tryz.underlying134 hw (j:=1) rfl rfl
     have f2:DataW.trod enc Tryz.prog W base sp held n 31 [v2]=some y2:=by
      have h:DataW.trod enc Tryz.prog W base sp held n 31 (([v0,v1,v2].drop 2).take (Tryz.prog.cellsOf 31))=some y2:=hf 2 _ rfl;rw [rG] at h;exact h
     have w2:∀ m∈y2.1.weights Tryz.prog 31,m≤reachBytes:=aE Tryz.underlying134 hw (j:=2) rfl rfl;obtain ⟨s0,e0,rfl,_⟩:=DataW.trod_string Tryz.underlying9 f0;have l0:s0.data.toList.length≤140737488351232:=by have:=w0 s0.data.toList.length (by simp [DataW.weights]);unfold reachBytes at this;omega
     obtain ⟨b1,e1,_⟩:=DataW.trod_bool Tryz.underlying4 f1;obtain ⟨d2,e2,_,o2⟩:=DataW.trod_int Tryz.underlying31 f2;simp at e0 e1 e2
     subst e0;subst e1;subst e2;exact ⟨⟨s0.data.toList,b1,d2⟩,by simp only [ew];rw [← jd s0],l0,bounds_u64 o2⟩
theorem gT {H:Type}{enc:TypeId × Value→H}{W:World}{base:Nat}{sp:Nat→Bool}{held:Bool}{fuel:Nat}{a:Option Addr}{len cap:Nat}{x:DataW H × List MemPlace}
 (h:DataW.trod enc Tryz.prog W base sp held fuel 27 [.slice a len cap]=some x) (hw:∀ m∈x.1.weights Tryz.prog 27,m≤reachBytes):∃ L,dd W a len cap L∧(a=none→cap=0)∧L.length≤4398046510976∧∀ y∈L,xt y:=by
 obtain ⟨L,h1,h2,h3,h4,h5,h6⟩:=i9 Tryz.underlying27 gh (by omega) (⟨[],false,0⟩:Ch) (fun t cs=>cs=ew t∧xt t) (fun _ _ _ h hw=>by obtain ⟨t,e,ho⟩:=lV h hw;exact ⟨t,⟨e,ho⟩,by rw [e];rfl⟩) h hw;rw [vz] at h5;unfold reachBytes at h5;refine ⟨L,⟨h1,h2,h3,fun i hi=>?_⟩,h4,by omega,fun y hy=>?_⟩
 ·obtain ⟨b,o,cs,e,⟨rfl,_⟩,hc⟩:=h6 i hi;exact ⟨b,o,e,hc 0 (by omega),hc 1 (by omega),hc 2 (by omega)⟩
 ·obtain ⟨i,hi,rfl⟩:=List.getElem_of_mem hy;obtain ⟨b,o,cs,e,⟨_,ho⟩,hc⟩:=h6 i hi;exact ho
theorem gt:Tryz.prog.cellsOf 108=4:=by kernel_rfl
theorem ge:Tryz.prog.cellsOf 34=7:=by kernel_rfl
theorem tI:Tryz.prog.cellsOf 32=1:=by kernel_rfl
theorem vq:Tryz.prog.bytesOf 108=56:=by kernel_rfl
theorem lB {H:Type}{enc:TypeId × Value→H}{W:World}{base:Nat}{sp:Nat→Bool}{held:Bool}{fuel:Nat}{cs:List Value}{x:DataW H × List MemPlace}
 (h:DataW.trod enc Tryz.prog W base sp held fuel 108 cs=some x) (hw:∀ m∈x.1.weights Tryz.prog 108,m≤reachBytes):∃ t:ch × Value,cs=di t∧uD W t.2 t.1.c∧xu t.1:=by
 obtain ⟨xs,n,rfl,rfl,hlen,hxs,hf⟩:=DataW.trod_struct Tryz.underlying108 h;rw [gt] at hlen;match cs,hlen with
 | [v0,v1,v2,v3],_ =>
   match xs,hxs with
   | [y0,y1,y2,y3],_ =>
     have f0:DataW.trod enc Tryz.prog W base sp held n 3 [v0]=some y0:=by
      have h:DataW.trod enc Tryz.prog W base sp held n 3 (([v0,v1,v2,v3].drop 0).take (Tryz.prog.cellsOf 3))=some y0:=hf 0 _ rfl;rw [ct] at h;exact h
     have w0:∀ m∈y0.1.weights Tryz.prog 3,m≤reachBytes:=aE Tryz.underlying108 hw (j:=0) rfl rfl
     have f1:DataW.trod enc Tryz.prog W base sp held n 3 [v1]=some y1:=by
      have h:DataW.trod enc Tryz.prog W base sp held n 3 (([v0,v1,v2,v3].drop 1).take (Tryz.prog.cellsOf 3))=some y1:=hf 1 _ rfl;rw [ct] at h;exact h
     have w1:∀ m∈y1.1.weights Tryz.prog 3,m≤reachBytes:=aE Tryz.underlying108 hw (j:=1) rfl rfl
     have f2:DataW.trod enc Tryz.prog W base sp held n 9 [v2]=some y2:=by
      have h:DataW.trod enc Tryz.prog W base sp held n 9 (([v0,v1,v2,v3].drop 2).take (Tryz.prog.cellsOf 9))=some y2:=hf 2 _ rfl;rw [iZ] at h;exact h
     have w2:∀ m∈y2.1.weights Tryz.prog 9,m≤reachBytes:=aE Tryz.underlying108 hw (j:=2) rfl rfl
     have f3:DataW.trod enc Tryz.prog W base sp held n 27 [v3]=some y3:=by
      have h:DataW.trod enc Tryz.prog W base sp held n 27 (([v0,v1,v2,v3].drop 3).take (Tryz.prog.cellsOf 27))=some y3:=hf 3 _ rfl;rw [o9] at h;exact h
     have w3:∀ m∈y3.1.weights Tryz.prog 27,m≤reachBytes:=aE Tryz.underlying108 hw (j:=3) rfl rfl;obtain ⟨d0,e0,_,_⟩:=DataW.trod_int Tryz.underlying3 f0;obtain ⟨d1,e1,_,_⟩:=DataW.trod_int Tryz.underlying3 f1;obtain ⟨s2,e2,rfl,_⟩:=DataW.trod_string Tryz.underlying9 f2;have l2:s2.data.toList.length≤140737488351232:=by have:=w2 s2.data.toList.length (by simp [DataW.weights]);unfold reachBytes at this;omega
     have hv3:∃ a l c,v3=.slice a l c:=by
      rcases DataW.trod_slice Tryz.underlying27 f3 with ⟨h0,_⟩ | ⟨a,l,c,_,_,_,_,h0,_⟩
      ·simp at h0;exact ⟨_,_,_,h0⟩
      ·simp at h0;exact ⟨_,_,_,h0⟩
     obtain ⟨a,l,c,rfl⟩:=hv3;simp at e0 e1 e2
     subst e0;subst e1;subst e2;obtain ⟨L,hs,hn,hl,ho⟩:=gT f3 w3;exact ⟨(⟨d0,d1,s2.data.toList,L⟩,.slice a l c),by simp only [di];rw [← jd s2],⟨a,l,c,rfl,hs,hn⟩,l2,hl,ho⟩
theorem kw {H:Type}{enc:TypeId × Value→H}{W:World}{base:Nat}{sp:Nat→Bool}{held:Bool}{fuel:Nat}{a:Option Addr}{len cap:Nat}{x:DataW H × List MemPlace}
 (h:DataW.trod enc Tryz.prog W base sp held fuel 32 [.slice a len cap]=some x) (hw:∀ m∈x.1.weights Tryz.prog 32,m≤reachBytes):∃ K,jI W a len cap K∧(a=none→cap=0)∧K.length≤2513169434843∧∀ y∈K,xu y.1:=by
 obtain ⟨L,h1,h2,h3,h4,h5,h6⟩:=i9 Tryz.underlying32 gt (by omega) ((⟨0,0,[],[]⟩,.slice none 0 0):ch × Value) (fun t cs=>cs=di t∧uD W t.2 t.1.c∧xu t.1) (fun _ _ _ h hw=>by obtain ⟨t,e,ho⟩:=lB h hw;exact ⟨t,⟨e,ho⟩,by rw [e];rfl⟩) h hw;rw [vq] at h5;unfold reachBytes at h5;refine ⟨L,⟨h1,h2,h3,fun i hi=>?_,fun y hy=>?_⟩,h4,by omega,fun y hy=>?_⟩
 ·obtain ⟨b,o,cs,e,⟨rfl,_⟩,hc⟩:=h6 i hi;exact ⟨b,o,e,hc 0 (by omega),hc 1 (by omega),hc 2 (by omega),hc 3 (by omega)⟩
 ·obtain ⟨i,hi,rfl⟩:=List.getElem_of_mem hy;obtain ⟨b,o,cs,e,⟨_,ho,_⟩,hc⟩:=h6 i hi;exact ho
 ·obtain ⟨i,hi,rfl⟩:=List.getElem_of_mem hy;obtain ⟨b,o,cs,e,⟨_,_,ho⟩,hc⟩:=h6 i hi;exact ho
def u9 (v:Vt) (u:Value):List Value:=[.int .i64 v.c,.int .i64 v.s,.int .i64 v.r,.string (ac v.p),.int .u64 v.d,u,.int .i64 v.m]
theorem kG {H:Type}{enc:TypeId × Value→H}{W:World}{base:Nat}{sp:Nat→Bool}{held:Bool}{fuel:Nat}{cs:List Value}{x:DataW H × List MemPlace}
 (h:DataW.trod enc Tryz.prog W base sp held fuel 34 cs=some x) (hw:∀ m∈x.1.weights Tryz.prog 34,m≤reachBytes):∃ (t:Vt) (u:Value),cs=u9 t u∧ku W u t.k∧xx t:=by
 obtain ⟨xs,n,rfl,rfl,hlen,hxs,hf⟩:=DataW.trod_struct Tryz.underlying34 h;rw [ge] at hlen;match cs,hlen with
 | [v0,v1,v2,v3,v4,v5,v6],_ =>
   match xs,hxs with
   | [y0,y1,y2,y3,y4,y5,y6],_ =>
     have f0:DataW.trod enc Tryz.prog W base sp held n 3 [v0]=some y0:=by
      have h:DataW.trod enc Tryz.prog W base sp held n 3 (([v0,v1,v2,v3,v4,v5,v6].drop 0).take (Tryz.prog.cellsOf 3))=some y0:=hf 0 _ rfl;rw [ct] at h;exact h
     have w0:∀ m∈y0.1.weights Tryz.prog 3,m≤reachBytes:=aE Tryz.underlying34 hw (j:=0) rfl rfl
     have f1:DataW.trod enc Tryz.prog W base sp held n 3 [v1]=some y1:=by
      have h:DataW.trod enc Tryz.prog W base sp held n 3 (([v0,v1,v2,v3,v4,v5,v6].drop 1).take (Tryz.prog.cellsOf 3))=some y1:=hf 1 _ rfl;rw [ct] at h;exact h
     have w1:∀ m∈y1.1.weights Tryz.prog 3,m≤reachBytes:=aE Tryz.underlying34 hw (j:=1) rfl rfl
     have f2:DataW.trod enc Tryz.prog W base sp held n 3 [v2]=some y2:=by
      have h:DataW.trod enc Tryz.prog W base sp held n 3 (([v0,v1,v2,v3,v4,v5,v6].drop 2).take (Tryz.prog.cellsOf 3))=some y2:=hf 2 _ rfl;rw [ct] at h;exact h
     have w2:∀ m∈y2.1.weights Tryz.prog 3,m≤reachBytes:=aE Tryz.underlying34 hw (j:=2) rfl rfl
     have f3:DataW.trod enc Tryz.prog W base sp held n 9 [v3]=some y3:=by
      have h:DataW.trod enc Tryz.prog W base sp held n 9 (([v0,v1,v2,v3,v4,v5,v6].drop 3).take (Tryz.prog.cellsOf 9))=some y3:=hf 3 _ rfl;rw [iZ] at h;exact h
     have w3:∀ m∈y3.1.weights Tryz.prog 9,m≤reachBytes:=aE Tryz.underlying34 hw (j:=3) rfl rfl
     have f4:DataW.trod enc Tryz.prog W base sp held n 31 [v4]=some y4:=by
      have h:DataW.trod enc Tryz.prog W base sp held n 31 (([v0,v1,v2,v3,v4,v5,v6].drop 4).take (Tryz.prog.cellsOf 31))=some y4:=hf 4 _ rfl;rw [rG] at h;exact h
     have w4:∀ m∈y4.1.weights Tryz.prog 31,m≤reachBytes:=aE Tryz.underlying34 hw (j:=4) rfl rfl
     have f5:DataW.trod enc Tryz.prog W base sp held n 32 [v5]=some y5:=by
      have h:DataW.trod enc Tryz.prog W base sp held n 32 (([v0,v1,v2,v3,v4,v5,v6].drop 5).take (Tryz.prog.cellsOf 32))=some y5:=hf 5 _ rfl;rw [tI] at h;exact h
     have w5:∀ m∈y5.1.weights Tryz.prog 32,m≤reachBytes:=aE Tryz.underlying34 hw (j:=5) rfl rfl
     have f6:DataW.trod enc Tryz.prog W base sp held n 3 [v6]=some y6:=by
      have h:DataW.trod enc Tryz.prog W base sp held n 3 (([v0,v1,v2,v3,v4,v5,v6].drop 6).take (Tryz.prog.cellsOf 3))=some y6:=hf 6 _ rfl;rw [ct] at h;exact h
     have w6:∀ m∈y6.1.weights Tryz.prog 3,m≤reachBytes:=aE Tryz.underlying34 hw (j:=6) rfl rfl;obtain ⟨d0,e0,_,_⟩:=DataW.trod_int Tryz.underlying3 f0;obtain ⟨d1,e1,_,_⟩:=DataW.trod_int Tryz.underlying3 f1;obtain ⟨d2,e2,_,o2⟩:=DataW.trod_int Tryz.underlying3 f2;obtain ⟨s3,e3,rfl,_⟩:=DataW.trod_string Tryz.underlying9 f3;have l3:s3.data.toList.length≤140737488351232:=by have:=w3 s3.data.toList.length (by simp [DataW.weights]);unfold reachBytes at this;omega
     obtain ⟨d4,e4,_,o4⟩:=DataW.trod_int Tryz.underlying31 f4
     have hv5:∃ a l c,v5=.slice a l c:=by
      rcases DataW.trod_slice Tryz.underlying32 f5 with ⟨h0,_⟩ | ⟨a,l,c,_,_,_,_,h0,_⟩
      ·simp at h0;exact ⟨_,_,_,h0⟩
      ·simp at h0;exact ⟨_,_,_,h0⟩
     obtain ⟨a,l,c,rfl⟩:=hv5;obtain ⟨d6,e6,_,_⟩:=DataW.trod_int Tryz.underlying3 f6;simp at e0 e1 e2 e3 e4 e6
     subst e0;subst e1;subst e2;subst e3;subst e4;subst e6;obtain ⟨K,hs,hn,hl,ho⟩:=kw f5 w5;exact ⟨⟨d0,d1,d2,s3.data.toList,d4,K.map Prod.fst,d6⟩,.slice a l c,by simp only [u9];rw [← jd s3],⟨a,l,c,K,rfl,hs,rfl,hn⟩,l3,by simpa using hl,(fun y hy=>by obtain ⟨z,hz,rfl⟩:=List.mem_map.1 hy;exact ho z hz),bounds_i64 o2,bounds_u64 o4⟩
end Go.Proofs.YtakafmejllilnaaGreat
namespace Go.Proofs.YtakafmejllilnaaGreat
open Go.ChangeShapes Go.WideShapes Go.ChangeAt Go.RowKit
theorem wj {x:Int}(h:(Lit.int .u8 x).wf=true):0≤x∧x < 256:=by
 simp [Lit.wf,IntKind.min,IntKind.max,IntKind.bits,IntKind.signed] at h
 omega
theorem sy (b o i:Nat):(⟨b,o,none⟩:Addr).add i=⟨b,o+i,none⟩:=by
 by_cases h:i=0 <;> simp [Addr.add,h]
theorem od {H:Type}{enc:TypeId × Value→H}{W:World}{base:Nat}{sp:Nat→Bool}{held:Bool}{fuel:Nat}{a:Option Addr}{len cap:Nat}{x:DataW H × List MemPlace}
 (h:DataW.trod enc Tryz.prog W base sp held fuel 23 [.slice a len cap]=some x):∃ l,Sl W a len cap l∧bh l∧(x.1=.nil∨∃ spare,x.1=.slice (lits .u8 l) spare):=by
 rcases open_ints Tryz.underlying23 Tryz.underlying5 (by kernel_rfl) h with ⟨hcs,hx⟩ | ⟨ad,l,c,zs,hcs,_,hl,hm,hz,hx,hcell,hwz⟩
 ·simp at hcs
  obtain ⟨rfl,rfl,rfl⟩:=hcs;exact ⟨[],Sl.nil _,by intro x hx;simp at hx,.inl (by rw [hx])⟩
 ·simp at hcs
  obtain ⟨rfl,rfl,rfl⟩:=hcs;have hlen:len≤zs.length:=by rw [hz];split <;> omega
  refine ⟨zs.take len,⟨by simp;omega,hl,hm,by simp,fun i hi=>?_⟩,fun y hy=>wj (hwz y (List.mem_of_mem_take hy)),.inr ⟨_,by rw [hx]⟩⟩;have hc:=hcell i (by omega);obtain ⟨b,o,spot⟩:=ad
  have hspot:spot=none:=by
   have:=World.cell?_spot hc
   by_cases h0:i=0
   ·subst h0;simpa [Addr.add] using this
   ·have h1:=hcell 0 (by omega);have:=World.cell?_spot h1
    simpa [Addr.add] using this
  subst hspot;refine ⟨b,o,rfl,?_⟩;rw [← sy,hc];simp [List.getD,hi]
end Go.Proofs.YtakafmejllilnaaGreat
namespace Go.Proofs.YtakafmejllilnaaGreat
open Go.RowKit
theorem sf (n:Nat):∀ k,(Value.slice none 0 0).ownBlock=some k→n≤k:=by
 intro k hk;cases hk
theorem k8 (w:World) (ao:Option Addr) (n c:Nat) (l:List Int) (hs:Sl w ao n c l) (hbig:n≤100000000000) :
 Calls Tryz.prog 12 #[.slice ao n c] w fun r w'=>∃ v,r=.returned v∧ev w' v l∧(∀ k,v.ownBlock=some k→w.heap.size≤k)∧ab [] w w':=by
 obtain ⟨i0,hi,hz0,hz1,hz2⟩:=info_parts fj;have hn:=hs.1;subst hn;have hm:=hs.2.2.1;have hc:=hs.2.1;unfold maxLen at hm;by_cases h0:l.length=0
 ·have e1:l=[]:=by simpa using h0
  subst e1;clear hs;go_enter Tryz.func12,Tryz.ntmps12;go_wp2
  refine wp_loop_rounds 1 ?_;rw [rounds_succ];go_wp2
  go_ret
  exact ⟨_,rfl,World.ownsRow_nil _ _ _ _,sf _,ab.refl _ _⟩
 ·obtain ⟨b,o,rfl,hcell⟩:=hs.some (by omega);have HC:Hid (∀ i,i < l.length→w.cell? ⟨b,o+i,none⟩=some (.int .u8 (l.getD i 0))):=hcell;clear hs hcell;go_enter Tryz.func12,Tryz.ntmps12;go_wp2
  go_loopw [3,4] (fun v i wr=>∃ (k:Nat),k≤l.length∧i=.int .i64 k∧ev wr v (l.take k)∧(∀ k,v.ownBlock=some k→w.heap.size≤k)∧ab [] w wr) (fun _ i _=>l.length - (intOf i).toNat)
  case atStart=>exact ⟨0,Nat.zero_le _,rfl,World.ownsRow_nil _ _ _ _,sf _,ab.refl _ _⟩
  case round =>
   obtain ⟨k,hk,rfl,hO,hfr,hkept⟩:=hrel;have hlen:(l.take k).length=k:=by simp;omega
   obtain ⟨L,hL⟩:∃ L,L=l.take k:=⟨_,rfl⟩;rw [← hL] at hO hlen;have HO1:Hid (ev wr u3 L):=hO;have HL:Hid (L=l.take k):=hL;have hlen2:L.length≤100000000000:=by omega
   have HFR:Hid (∀ k,u3.ownBlock=some k→w.heap.size≤k):=hfr;clear hO hL hlen hfr;by_cases hlt:k < l.length
   ·have g1:wr.cell? ⟨b,o+k,none⟩=some (.int .u8 (l.getD k 0)):=hkept.cell (HC.out k hlt) (by simp);generalize hd:l.getD k 0=d at g1;have HD:Hid (l.getD k 0=d):=hd;clear hd;go_wp2_with (at_builtin;refine cZ _ rfl _ _ 23 rfl 5 i0 (.int .u8 0) 1 1 Tryz.underlying23 hi hz0 hz1 hz2 rfl (by decide) _ L.length (L.map (Value.int .u8)) rfl (World.ownsRow.alloc HO1.out _) ⟨wr.heap.size,0,none⟩ 1 1 [.int .u8 d] rfl rfl ?c1 ?c2 ?c3 ?c4 ?_)
    case c1 =>
     intro j u hj;match j,hj with
     | 0,hj=>simp at hj;subst hj;simp [Addr.add]
    case c2=>intro u hu;simp at hu;subst hu;rfl
    case c3=>unfold maxLen;omega
    case c4=>omega
    intro v' w1 hown hgrow hfr';have hO2:ev w1 v' (L++[d]):=iU hown rfl rfl;clear hown;go_wp2
    go_roundw
    case rel =>
     refine ⟨k+1,by omega,by go_num,?_,?_,?_⟩
     ·rw [gy hlt,HD.out,← HL.out];exact hO2
     ·intro j hj;rcases hfr' j hj with h1 | h1
      ·exact HFR.out j h1
      ·have:=hkept.size;omega
     ·exact (hkept.alloc _).grown hgrow (fun j hj=>.inr (HFR.out j hj))
    case measure=>simp [intOf];omega
   ·have e:l.take k=l:=List.take_of_length_le (by omega);have HO2:Hid (ev wr u3 l):=by have:=HO1.out;rw [HL.out,e] at this;exact this
    clear e;go_wp2
    go_ret
    exact ⟨_,rfl,HO2.out,HFR.out,hkept⟩
theorem fW {most e e1 x:Int}{l rest:List Int}(h:an e l=(e1,x,rest)) :
 aA e most l=if e1≠0 then (e1,[],[]) else if most < x then (3,[],[]) else if (rest.length:Int) < x then (2,[],[]) else (0,rest.take x.toNat,rest.drop x.toNat):=by
 unfold aA;unfold an at h;by_cases he:e=0
 ·rw [if_pos he] at h ⊢;exact i1 h
 ·rw [if_neg he] at h ⊢;cases h
  rw [if_pos he]
end Go.Proofs.YtakafmejllilnaaGreat
