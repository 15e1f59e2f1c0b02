/-
  Rows of numbers; Has.
-/
import Derived.Test.YteiagkjhmhllnaaRowsG
import Derived.Laws.AppendOwn
import Derived.OwnWalk
import Derived.WalkSmall
namespace Go.Proofs.Yteiagkjhmhllnaa
open Go.RowKit Go.ChangeShapes Go.WideShapes Go.ChangeAt Go.Deep
def SlI (w:World) (ao:Option Addr) (n c:Nat) (S:List Int):Prop :=
 S.length=n∧n≤c∧c≤maxLen∧∀ i (h:i < S.length),∃ b o,ao=some ⟨b,o,none⟩∧w.cell? ⟨b,o+i,none⟩=some (.int .i64 S[i])
theorem SlI.kept {a w:World}{ao:Option Addr}{n c:Nat}{S:List Int}(h:SlI a ao n c S) (k:Kept [] a w):SlI w ao n c S :=
 ⟨h.1,h.2.1,h.2.2.1,fun i hi=>by obtain ⟨b,o,e,h1⟩:=h.2.2.2 i hi;exact ⟨b,o,e,k.cell h1 (by simp)⟩⟩
def RowI (B:Nat) (w:World) (v:Value) (S:List Int):Prop:=w.ownsRow B 3 1 v S.length (S.map (Value.int .i64))
theorem RowI.nil (B:Nat) (w:World):RowI B w (.slice none 0 0) []:=World.ownsRow_nil w B 3 1
theorem RowI.sl {B:Nat}{w:World}{v:Value}{S:List Int}(h:RowI B w v S):∃ ao c,v=.slice ao S.length c∧SlI w ao S.length c S:=by
 have h':=h
 obtain ⟨h1,h2⟩:=h
 rcases h2 with ⟨hv,hn⟩ | ⟨g,cap,cur,hv,hg,hh,h3,h4,h5,h6⟩
 ·have:S=[]:=by simpa using hn
  subst this
  exact ⟨none,0,by rw [hv];rfl,rfl,Nat.le_refl _,Nat.zero_le _,fun i hi=>by simp at hi⟩
 ·refine ⟨some ⟨g,0,none⟩,cap,hv,rfl,h3,h4,fun i hi=>⟨g,0,rfl,?_⟩⟩
  unfold RowI at h'
  rw [hv] at h'
  rw [Nat.zero_add,World.ownsRow.cellAt h' i (by omega)]
  simp [hi]
theorem info_int:(Try.prog.info? 3).map (fun i=>(i.zero,i.size,i.bytes))=some (some (.int .i64 0),1,8):=by kernel_rfl
theorem wp_appI {w:World}{ops:Array Oper}{rest:List Oper}{o:Oper}{a:Act}{Q:Exit→Act→World→Prop}(hgd:o.guard=none) (s x:Operand)
 (hop:o.op=.call { callee:=.builtin .append,args:=#[s,x],argTypes:=#[37,37] })
 (B:Nat) (v:Value) (S:List Int) (hs:a.eval s=v) (hO:RowI B w v S) (g:Nat) (z:Int) (hx:a.eval x=.slice (some ⟨g,0,none⟩) 1 1) (hc:w.cell? ⟨g,0,none⟩=some (.int .i64 z)) (hlen:S.length≤1000000) (hB:B≤w.heap.size)
 (h:∀ v' w',RowI B w' v' (S++[z])→w.grownBy w' v.ownBlock→wpList Try.prog ops Q rest (a.put o.dst v') w'):wpList Try.prog ops Q (o :: rest) a w:=by
 obtain ⟨i0,hi,hz0,hz1,hz2⟩:=info_parts info_int
 refine wpList_append_own w hgd s x 37 hop B 3 i0 (.int .i64 0) 1 8 Try.underlying37 hi hz0 hz1 hz2 rfl (by decide) v S.length (S.map (Value.int .i64)) hs hO ⟨g,0,none⟩ 1 1 [.int .i64 z] hx rfl ?_ ?_ (by unfold maxLen;omega) (by omega) hB ?_
 ·intro j u hj
  match j,hj with
  | 0,hj=>simp at hj;subst hj;rw [adr_addC];exact hc
 ·intro u hu;simp at hu;subst hu;rfl
 ·intro v' w' h2 h3 _
  refine h v' w' ?_ h3
  unfold RowI
  rw [List.length_append,List.map_append]
  simpa using h2
theorem open_intsR {H:Type}{enc:TypeId × Value→H}{W:World}{base:Nat}{sp:Nat→Bool}{held:Bool}{fuel:Nat}{a:Option Addr}{len cap:Nat}{x:DataW H × List MemPlace}
 (h:DataW.trod enc Try.prog W base sp held fuel 37 [.slice a len cap]=some x) (hw:∀ m∈x.1.weights Try.prog 37,m≤reachBytes):∃ S,SlI W a len cap S:=by
 obtain ⟨L,h1,h2,h3,h4,_,h6⟩:=open_rows Try.underlying37 cellsI (by omega) (0:Int) (fun t cs=>cs=[.int .i64 t]) (fun _ _ _ h _=>by obtain ⟨d,e,_⟩:=DataW.trod_int Try.underlying3 h;exact ⟨d,e,by rw [e];rfl⟩) h hw
 refine ⟨L,h1,h2,h3,fun i hi=>?_⟩
 obtain ⟨b,o,cs,e,rfl,hc⟩:=h6 i hi
 have:=hc 0 (by omega)
 exact ⟨b,o,e,by simpa using this⟩
def WfI (l:List Int):Prop:=∀ x∈l,(Lit.int .i64 x).wf=true
theorem open_intsW {H:Type}{enc:TypeId × Value→H}{W:World}{base:Nat}{sp:Nat→Bool}{held:Bool}{fuel:Nat}{a:Option Addr}{len cap:Nat}{x:DataW H × List MemPlace}
 (h:DataW.trod enc Try.prog W base sp held fuel 37 [.slice a len cap]=some x) (hw:∀ m∈x.1.weights Try.prog 37,m≤reachBytes):∃ S,SlI W a len cap S∧WfI S:=by
 obtain ⟨L,h1,h2,h3,h4,_,h6⟩:=open_rows Try.underlying37 cellsI (by omega) (0:Int) (fun t cs=>cs=[.int .i64 t]∧(Lit.int .i64 t).wf=true) (fun _ _ _ h _=>by obtain ⟨d,e,_,hw⟩:=DataW.trod_int Try.underlying3 h;exact ⟨d,⟨e,hw⟩,by rw [e];rfl⟩) h hw
 refine ⟨L,⟨h1,h2,h3,fun i hi=>?_⟩,fun y hy=>?_⟩
 ·obtain ⟨b,o,cs,e,⟨rfl,_⟩,hc⟩:=h6 i hi
  have:=hc 0 (by omega)
  exact ⟨b,o,e,by simpa using this⟩
 ·obtain ⟨i,hi,rfl⟩:=List.getElem_of_mem hy
  obtain ⟨b,o,cs,e,⟨_,hw⟩,hc⟩:=h6 i hi
  exact hw
theorem SlI.drewN {w:World}{ao:Option Addr}{n c:Nat}{S:List Int}(h:SlI w ao n c S) (q:Nat):SlI (w.drewN q) ao n c S:=h
theorem SlI.take {w:World}{ao:Option Addr}{n c:Nat}{S:List Int}(h:SlI w ao n c S) {k:Nat}(hk:k≤n):SlI w ao k c (S.take k):=by
 obtain ⟨h1,h2,h3,h4⟩:=h
 refine ⟨by simp;omega,by omega,h3,fun i hi=>?_⟩
 obtain ⟨b,o,e,hc⟩:=h4 i (by simp at hi;omega)
 exact ⟨b,o,e,by rw [hc];simp⟩
theorem quietI {P:Program}{f:FuncId}{args:Array Value}{w:World}{n:Nat}{v:Value}
 (h:Calls P f args (w.drewN n) fun e w'=>e=.returned v∧w.drewN n=w'):Calls P f args (w.drewN n) fun e w''=>e=.returned v∧∃ m,w''=w.drewN m :=
 h.mono fun _ _ ⟨he,hm⟩=>⟨he,n,hm.symm⟩
end Go.Proofs.Yteiagkjhmhllnaa
