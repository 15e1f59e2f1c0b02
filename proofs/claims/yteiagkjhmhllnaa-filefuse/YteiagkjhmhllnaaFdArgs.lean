/-
  Deeds of layer 12 that came in, as they are read. (Written by mk/mkdargs.py.)
-/
import Derived.Test.YteiagkjhmhllnaaBys
import Derived.Test.YteiagkjhmhllnaaInts
import Derived.Test.YteiagkjhmhllnaaBoxG
namespace Go.Proofs.Yteiagkjhmhllnaa
open Go.ChangeShapes Go.WideShapes Go.ChangeAt Go.RowKit Go.Deep
structure Dm where
 do_:Int
 n:Int
 nm:List UInt8
 t:List UInt8
 b:List Int
 bo:Option Addr
 bc:Nat
 K:List Int
 ko:Option Addr
 kc:Nat
def dmC (y:Dm):List Value:=[.int .i64 y.do_,.int .i64 y.n,.string (str y.nm),.string (str y.t),.slice y.bo y.b.length y.bc,.slice y.ko y.K.length y.kc]
theorem dmC_length (y:Dm):(dmC y).length=6:=rfl
structure DmHy (w:World) (y:Dm):Prop where
 b:Sl w y.bo y.b.length y.bc y.b
 o:Oct y.b
 K:SlI w y.ko y.K.length y.kc y.K
 w:-9223372036854775808≤y.n∧y.n < 9223372036854775808
 W:∀ z∈y.K,-9223372036854775808≤z∧z < 9223372036854775808
theorem DmHy.kept {a w:World}{y:Dm}(h:DmHy a y) (k:Kept [] a w):DmHy w y:=⟨Sl.kept k h.b (by simp),h.o,h.K.kept k,h.w,h.W⟩
structure SlDm (w:World) (ao:Option Addr) (n c:Nat) (D:List Dm):Prop where
 l:D.length=n
 le:n≤c
 mx:c≤maxLen
 no:ao=none→c=0
 e:∀ i (h:i < D.length),∃ b o,ao=some ⟨b,o,none⟩∧w.rangeAt b (o+i*6) (dmC D[i])
 x:∀ y∈D,DmHy w y
theorem SlDm.kept {a w:World}{ao:Option Addr}{n c:Nat}{D:List Dm}(h:SlDm a ao n c D) (k:Kept [] a w):SlDm w ao n c D :=
 ⟨h.l,h.le,h.mx,h.no,fun i hi=>by obtain ⟨b,o,e,h1⟩:=h.e i hi;exact ⟨b,o,e,fun j v hv=>k.cell (h1 j v hv) (by simp)⟩,fun y hy=>(h.x y hy).kept k⟩
theorem octetF {x:Int}(h:(Lit.int .u8 x).wf=true):0≤x∧x < 256:=by
 simp [Lit.wf,IntKind.min,IntKind.max,IntKind.bits,IntKind.signed] at h
 omega
theorem i64F {x:Int}(h:(Lit.int .i64 x).wf=true):-9223372036854775808≤x∧x < 9223372036854775808:=by
 simp [Lit.wf,IntKind.min,IntKind.max,IntKind.bits,IntKind.signed] at h
 omega
theorem open_bytesF {H:Type}{enc:TypeId × Value→H}{W:World}{base:Nat}{sp:Nat→Bool}{held:Bool}{fuel:Nat}{a:Option Addr}{len cap:Nat}{x:DataW H × List MemPlace}
 (h:DataW.trod enc Try.prog W base sp held fuel 28 [.slice a len cap]=some x):∃ l,Sl W a len cap l∧Oct l:=by
 rcases open_ints Try.underlying28 Try.underlying5 (by kernel_rfl) h with ⟨hcs,hx⟩ | ⟨ad,l,c,zs,hcs,_,hl,hm,hz,hx,hcell,hwz⟩
 ·simp at hcs
  obtain ⟨rfl,rfl,rfl⟩:=hcs
  exact ⟨[],Sl.nil _,by intro x hx;simp at hx⟩
 ·simp at hcs
  obtain ⟨rfl,rfl,rfl⟩:=hcs
  have hlen:len≤zs.length:=by rw [hz];split <;> omega
  refine ⟨zs.take len,⟨by simp;omega,hl,hm,by simp,fun i hi=>?_⟩,fun y hy=>octetF (hwz y (List.mem_of_mem_take hy))⟩
  have hc:=hcell i (by omega)
  obtain ⟨b,o,spot⟩:=ad
  have hspot:spot=none:=by
   have:=World.cell?_spot hc
   by_cases h0:i=0
   ·subst h0;simpa [Addr.add] using this
   ·have h1:=hcell 0 (by omega)
    have:=World.cell?_spot h1
    simpa [Addr.add] using this
  subst hspot
  refine ⟨b,o,rfl,?_⟩
  rw [← adr_addC,hc]
  simp [List.getD,hi]
theorem cellsOf_Deed12:Try.prog.cellsOf 39=6:=by kernel_rfl
theorem cellsB12:Try.prog.cellsOf 28=1:=by kernel_rfl
theorem cellsN12:Try.prog.cellsOf 37=1:=by kernel_rfl
set_option maxRecDepth 100000 in
theorem open_deed12 {H:Type}{enc:TypeId × Value→H}{W:World}{base:Nat}{sp:Nat→Bool}{held:Bool}{fuel:Nat}{cs:List Value}{x:DataW H × List MemPlace}
 (h:DataW.trod enc Try.prog W base sp held fuel 39 cs=some x) (hw:∀ m∈x.1.weights Try.prog 39,m≤reachBytes):∃ t:Dm,cs=dmC t∧DmHy W t:=by
 obtain ⟨xs,n,rfl,rfl,hlen,hxs,hf⟩:=DataW.trod_struct Try.underlying39 h
 rw [cellsOf_Deed12] at hlen
 match cs,hlen with
 | [v0,v1,v2,v3,v4,v5],_ =>
   match xs,hxs with
   | [y0,y1,y2,y3,y4,y5],_ =>
     have f0:DataW.trod enc Try.prog W base sp held n 3 [v0]=some y0:=by
      have h:DataW.trod enc Try.prog W base sp held n 3 (([v0,v1,v2,v3,v4,v5].drop 0).take (Try.prog.cellsOf 3))=some y0:=hf 0 _ rfl
      rw [cellsI] at h
      exact h
     have f1:DataW.trod enc Try.prog W base sp held n 3 [v1]=some y1:=by
      have h:DataW.trod enc Try.prog W base sp held n 3 (([v0,v1,v2,v3,v4,v5].drop 1).take (Try.prog.cellsOf 3))=some y1:=hf 1 _ rfl
      rw [cellsI] at h
      exact h
     have f2:DataW.trod enc Try.prog W base sp held n 9 [v2]=some y2:=by
      have h:DataW.trod enc Try.prog W base sp held n 9 (([v0,v1,v2,v3,v4,v5].drop 2).take (Try.prog.cellsOf 9))=some y2:=hf 2 _ rfl
      rw [cellsS] at h
      exact h
     have f3:DataW.trod enc Try.prog W base sp held n 9 [v3]=some y3:=by
      have h:DataW.trod enc Try.prog W base sp held n 9 (([v0,v1,v2,v3,v4,v5].drop 3).take (Try.prog.cellsOf 9))=some y3:=hf 3 _ rfl
      rw [cellsS] at h
      exact h
     have f4:DataW.trod enc Try.prog W base sp held n 28 [v4]=some y4:=by
      have h:DataW.trod enc Try.prog W base sp held n 28 (([v0,v1,v2,v3,v4,v5].drop 4).take (Try.prog.cellsOf 28))=some y4:=hf 4 _ rfl
      rw [cellsB12] at h
      exact h
     have f5:DataW.trod enc Try.prog W base sp held n 37 [v5]=some y5:=by
      have h:DataW.trod enc Try.prog W base sp held n 37 (([v0,v1,v2,v3,v4,v5].drop 5).take (Try.prog.cellsOf 37))=some y5:=hf 5 _ rfl
      rw [cellsN12] at h
      exact h
     have w5:∀ m∈y5.1.weights Try.prog 37,m≤reachBytes:=light_field Try.underlying39 hw (j:=5) rfl rfl
     obtain ⟨d0,e0,_,_⟩:=DataW.trod_int Try.underlying3 f0
     obtain ⟨d1,e1,_,q1⟩:=DataW.trod_int Try.underlying3 f1
     obtain ⟨s2,e2,rfl,_⟩:=DataW.trod_string Try.underlying9 f2
     obtain ⟨s3,e3,rfl,_⟩:=DataW.trod_string Try.underlying9 f3
     have hv4:∃ a l c,v4=.slice a l c:=by
      rcases DataW.trod_slice Try.underlying28 f4 with ⟨h0,_⟩ | ⟨a,l,c,_,_,_,_,h0,_⟩
      ·simp at h0;exact ⟨_,_,_,h0⟩
      ·simp at h0;exact ⟨_,_,_,h0⟩
     obtain ⟨a4,l4,c4,rfl⟩:=hv4
     have hv5:∃ a l c,v5=.slice a l c:=by
      rcases DataW.trod_slice Try.underlying37 f5 with ⟨h0,_⟩ | ⟨a,l,c,_,_,_,_,h0,_⟩
      ·simp at h0;exact ⟨_,_,_,h0⟩
      ·simp at h0;exact ⟨_,_,_,h0⟩
     obtain ⟨a5,l5,c5,rfl⟩:=hv5
     simp at e0 e1 e2 e3
     subst e0;subst e1;subst e2;subst e3
     obtain ⟨B,hB,hO⟩:=open_bytesF f4
     obtain ⟨K,hK,hW⟩:=open_intsW f5 w5
     obtain rfl:=hB.1
     obtain rfl:=hK.1
     exact ⟨⟨d0,d1,s2.data.toList,s3.data.toList,B,a4,c4,K,a5,c5⟩,by simp only [dmC];rw [← str_of s2,← str_of s3],⟨hB,hO,hK,i64F q1,fun z hz=>i64F (hW z hz)⟩⟩
theorem open_deeds12 {H:Type}{enc:TypeId × Value→H}{W:World}{base:Nat}{sp:Nat→Bool}{held:Bool}{fuel:Nat}{a:Option Addr}{len cap:Nat}{x:DataW H × List MemPlace}
 (h:DataW.trod enc Try.prog W base sp held fuel 33 [.slice a len cap]=some x) (hw:∀ m∈x.1.weights Try.prog 33,m≤reachBytes):∃ D,SlDm W a len cap D:=by
 obtain ⟨L,h1,h2,h3,h4,_,h6⟩:=open_rows Try.underlying33 cellsOf_Deed12 (by omega) (⟨0,0,[],[],[],none,0,[],none,0⟩:Dm) (fun t cs=>cs=dmC t∧DmHy W t) (fun _ _ _ h hw=>by obtain ⟨t,e,ho⟩:=open_deed12 h hw;exact ⟨t,⟨e,ho⟩,by rw [e];rfl⟩) h hw
 refine ⟨L,⟨h1,h2,h3,h4,fun i hi=>?_,fun y hy=>?_⟩⟩
 ·obtain ⟨b,o,cs,e,⟨rfl,_⟩,hc⟩:=h6 i hi
  refine ⟨b,o,e,fun j v hv=>?_⟩
  have hj:j < 6:=by
   by_cases hl:j < 6
   ·exact hl
   ·rw [List.getElem?_eq_none (by rw [dmC_length];omega)] at hv;cases hv
  rw [hc j hj,hv]
 ·obtain ⟨i,hi,rfl⟩:=List.getElem_of_mem hy
  obtain ⟨b,o,cs,e,⟨_,ho⟩,hc⟩:=h6 i hi
  exact ho
end Go.Proofs.Yteiagkjhmhllnaa
