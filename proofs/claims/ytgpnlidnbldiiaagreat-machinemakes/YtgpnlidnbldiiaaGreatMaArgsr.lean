/-
  Requests and configurations that came in, as they are read: within the reach of memory.
-/
import Derived.Test.YtgpnlidnbldiiaaGreatQ2r
import Derived.Test.YtgpnlidnbldiiaaGreatQ12r
import Derived.Test.YtgpnlidnbldiiaaGreatQ1r
import Derived.Test.YtgpnlidnbldiiaaGreatQ18r
set_option maxRecDepth 100000
namespace Go.Proofs.YtgpnlidnbldiiaaGreat
open Go.ChangeShapes Go.WideShapes Go.ChangeAt Go.RowKit Go.Deep
theorem iU:Tryz.prog.cellsOf 60=3:=by kernel_rfl
theorem ip:Tryz.prog.cellsOf 43=11:=by kernel_rfl
theorem Be:Tryz.prog.cellsOf 41=1:=by kernel_rfl
theorem Cr:Tryz.prog.bytesOf 60=32:=by kernel_rfl
theorem pU {H:Type}{enc:TypeId × Value→H}{W:World}{base:Nat}{sp:Nat→Bool}{held:Bool}{fuel:Nat}{cs:List Value}{x:DataW H × List MemPlace}
 (h:DataW.trod enc Tryz.prog W base sp held fuel 60 cs=some x) (hw:∀ m∈x.1.weights Tryz.prog 60,m≤reachBytes):∃ t:Ch,cs=iA t∧Bz t:=by
 obtain ⟨xs,n,rfl,rfl,hlen,hxs,hf⟩:=DataW.trod_struct Tryz.underlying60 h;rw [iU] at hlen;match cs,hlen with
 | [v0,v1,v2],_ =>
   match xs,hxs with
   | [y0,y1,y2],_ =>
     have f0:DataW.trod enc Tryz.prog W base sp held n 9 [v0]=some y0:=by
      have h:DataW.trod enc Tryz.prog W base sp held n 9 (([v0,v1,v2].drop 0).take (Tryz.prog.cellsOf 9))=some y0:=hf 0 _ rfl;rw [pA] at h;exact h
     have w0:∀ m∈y0.1.weights Tryz.prog 9,m≤reachBytes:=dC Tryz.underlying60 hw (j:=0) rfl rfl
     have f1:DataW.trod enc Tryz.prog W base sp held n 4 [v1]=some y1:=by
      have h:DataW.trod enc Tryz.prog W base sp held n 4 (([v0,v1,v2].drop 1).take (Tryz.prog.cellsOf 4))=some y1:=hf 1 _ rfl;rw [Cd] at h;exact h
     have w1:∀ m∈y1.1.weights Tryz.prog 4,m≤reachBytes:=dC Tryz.underlying60 hw (j:=1) rfl rfl
     have f2:DataW.trod enc Tryz.prog W base sp held n 36 [v2]=some y2:=by
      have h:DataW.trod enc Tryz.prog W base sp held n 36 (([v0,v1,v2].drop 2).take (Tryz.prog.cellsOf 36))=some y2:=hf 2 _ rfl;rw [B7] at h;exact h
     have w2:∀ m∈y2.1.weights Tryz.prog 36,m≤reachBytes:=dC Tryz.underlying60 hw (j:=2) rfl rfl;obtain ⟨s0,e0,rfl,_⟩:=DataW.trod_string Tryz.underlying9 f0;have l0:s0.data.toList.length≤140737488351232:=by have:=w0 s0.data.toList.length (by simp [DataW.weights]);unfold reachBytes at this;omega
     obtain ⟨b1,e1,_⟩:=DataW.trod_bool Tryz.underlying4 f1;obtain ⟨d2,e2,_,_⟩:=DataW.trod_int Tryz.underlying36 f2;simp at e0 e1 e2
     subst e0;subst e1;subst e2;exact ⟨⟨s0.data.toList,b1,d2⟩,by simp only [iA];rw [← mK s0],l0⟩
theorem oe {H:Type}{enc:TypeId × Value→H}{W:World}{base:Nat}{sp:Nat→Bool}{held:Bool}{fuel:Nat}{a:Option Addr}{len cap:Nat}{x:DataW H × List MemPlace}
 (h:DataW.trod enc Tryz.prog W base sp held fuel 41 [.slice a len cap]=some x) (hw:∀ m∈x.1.weights Tryz.prog 41,m≤reachBytes):∃ L,di W a len cap L∧(a=none→cap=0)∧L.length≤4398046510976∧∀ y∈L,Bz y:=by
 obtain ⟨L,h1,h2,h3,h4,h5,h6⟩:=lh Tryz.underlying41 iU (by omega) (⟨[],false,0⟩:Ch) (fun t cs=>cs=iA t∧Bz t) (fun _ _ _ h hw=>by obtain ⟨t,e,ho⟩:=pU h hw;exact ⟨t,⟨e,ho⟩,by rw [e];rfl⟩) h hw;rw [Cr] at h5;unfold reachBytes at h5;refine ⟨L,⟨h1,h2,h3,fun i hi=>?_⟩,h4,by omega,fun y hy=>?_⟩
 ·obtain ⟨b,o,cs,e,⟨rfl,_⟩,hc⟩:=h6 i hi;exact ⟨b,o,e,hc 0 (by omega),hc 1 (by omega),hc 2 (by omega)⟩
 ·obtain ⟨i,hi,rfl⟩:=List.getElem_of_mem hy;obtain ⟨b,o,cs,e,⟨_,ho⟩,hc⟩:=h6 i hi;exact ho
theorem n9 {H:Type}{enc:TypeId × Value→H}{W:World}{base:Nat}{sp:Nat→Bool}{held:Bool}{fuel:Nat}{cs:List Value}{x:DataW H × List MemPlace}
 (h:DataW.trod enc Tryz.prog W base sp held fuel 43 cs=some x) (hw:∀ m∈x.1.weights Tryz.prog 43,m≤reachBytes):∃ t:Rm,cs=oH t∧tS W t:=by
 obtain ⟨xs,n,rfl,rfl,hlen,hxs,hf⟩:=DataW.trod_struct Tryz.underlying43 h;rw [ip] at hlen;match cs,hlen with
 | [v0,v1,v2,v3,v4,v5,v6,v7,v8,v9,v10],_ =>
   match xs,hxs with
   | [y0,y1,y2,y3,y4,y5,y6,y7,y8,y9,y10],_ =>
     have f0:DataW.trod enc Tryz.prog W base sp held n 3 [v0]=some y0:=by
      have h:DataW.trod enc Tryz.prog W base sp held n 3 (([v0,v1,v2,v3,v4,v5,v6,v7,v8,v9,v10].drop 0).take (Tryz.prog.cellsOf 3))=some y0:=hf 0 _ rfl;rw [dX] at h;exact h
     have f1:DataW.trod enc Tryz.prog W base sp held n 9 [v1]=some y1:=by
      have h:DataW.trod enc Tryz.prog W base sp held n 9 (([v0,v1,v2,v3,v4,v5,v6,v7,v8,v9,v10].drop 1).take (Tryz.prog.cellsOf 9))=some y1:=hf 1 _ rfl;rw [pA] at h;exact h
     have w1:∀ m∈y1.1.weights Tryz.prog 9,m≤reachBytes:=dC Tryz.underlying43 hw (j:=1) rfl rfl
     have f2:DataW.trod enc Tryz.prog W base sp held n 3 [v2]=some y2:=by
      have h:DataW.trod enc Tryz.prog W base sp held n 3 (([v0,v1,v2,v3,v4,v5,v6,v7,v8,v9,v10].drop 2).take (Tryz.prog.cellsOf 3))=some y2:=hf 2 _ rfl;rw [dX] at h;exact h
     have f3:DataW.trod enc Tryz.prog W base sp held n 3 [v3]=some y3:=by
      have h:DataW.trod enc Tryz.prog W base sp held n 3 (([v0,v1,v2,v3,v4,v5,v6,v7,v8,v9,v10].drop 3).take (Tryz.prog.cellsOf 3))=some y3:=hf 3 _ rfl;rw [dX] at h;exact h
     have f4:DataW.trod enc Tryz.prog W base sp held n 3 [v4]=some y4:=by
      have h:DataW.trod enc Tryz.prog W base sp held n 3 (([v0,v1,v2,v3,v4,v5,v6,v7,v8,v9,v10].drop 4).take (Tryz.prog.cellsOf 3))=some y4:=hf 4 _ rfl;rw [dX] at h;exact h
     have f5:DataW.trod enc Tryz.prog W base sp held n 9 [v5]=some y5:=by
      have h:DataW.trod enc Tryz.prog W base sp held n 9 (([v0,v1,v2,v3,v4,v5,v6,v7,v8,v9,v10].drop 5).take (Tryz.prog.cellsOf 9))=some y5:=hf 5 _ rfl;rw [pA] at h;exact h
     have w5:∀ m∈y5.1.weights Tryz.prog 9,m≤reachBytes:=dC Tryz.underlying43 hw (j:=5) rfl rfl
     have f6:DataW.trod enc Tryz.prog W base sp held n 41 [v6]=some y6:=by
      have h:DataW.trod enc Tryz.prog W base sp held n 41 (([v0,v1,v2,v3,v4,v5,v6,v7,v8,v9,v10].drop 6).take (Tryz.prog.cellsOf 41))=some y6:=hf 6 _ rfl;rw [Be] at h;exact h
     have w6:∀ m∈y6.1.weights Tryz.prog 41,m≤reachBytes:=dC Tryz.underlying43 hw (j:=6) rfl rfl
     have f7:DataW.trod enc Tryz.prog W base sp held n 9 [v7]=some y7:=by
      have h:DataW.trod enc Tryz.prog W base sp held n 9 (([v0,v1,v2,v3,v4,v5,v6,v7,v8,v9,v10].drop 7).take (Tryz.prog.cellsOf 9))=some y7:=hf 7 _ rfl;rw [pA] at h;exact h
     have w7:∀ m∈y7.1.weights Tryz.prog 9,m≤reachBytes:=dC Tryz.underlying43 hw (j:=7) rfl rfl
     have f8:DataW.trod enc Tryz.prog W base sp held n 3 [v8]=some y8:=by
      have h:DataW.trod enc Tryz.prog W base sp held n 3 (([v0,v1,v2,v3,v4,v5,v6,v7,v8,v9,v10].drop 8).take (Tryz.prog.cellsOf 3))=some y8:=hf 8 _ rfl;rw [dX] at h;exact h
     have f9:DataW.trod enc Tryz.prog W base sp held n 3 [v9]=some y9:=by
      have h:DataW.trod enc Tryz.prog W base sp held n 3 (([v0,v1,v2,v3,v4,v5,v6,v7,v8,v9,v10].drop 9).take (Tryz.prog.cellsOf 3))=some y9:=hf 9 _ rfl;rw [dX] at h;exact h
     have f10:DataW.trod enc Tryz.prog W base sp held n 3 [v10]=some y10:=by
      have h:DataW.trod enc Tryz.prog W base sp held n 3 (([v0,v1,v2,v3,v4,v5,v6,v7,v8,v9,v10].drop 10).take (Tryz.prog.cellsOf 3))=some y10:=hf 10 _ rfl;rw [dX] at h;exact h
     obtain ⟨d0,e0,_,o0⟩:=DataW.trod_int Tryz.underlying3 f0;obtain ⟨s1,e1,rfl,_⟩:=DataW.trod_string Tryz.underlying9 f1;obtain ⟨d2,e2,_,o2⟩:=DataW.trod_int Tryz.underlying3 f2;obtain ⟨d3,e3,_,o3⟩:=DataW.trod_int Tryz.underlying3 f3;obtain ⟨d4,e4,_,o4⟩:=DataW.trod_int Tryz.underlying3 f4;obtain ⟨s5,e5,rfl,_⟩:=DataW.trod_string Tryz.underlying9 f5
     have hv6:∃ a l c,v6=.slice a l c:=by
      rcases DataW.trod_slice Tryz.underlying41 f6 with ⟨h0,_⟩ | ⟨a,l,c,_,_,_,_,h0,_⟩
      ·simp at h0;exact ⟨_,_,_,h0⟩
      ·simp at h0;exact ⟨_,_,_,h0⟩
     obtain ⟨a,l,c,rfl⟩:=hv6;obtain ⟨s7,e7,rfl,_⟩:=DataW.trod_string Tryz.underlying9 f7;obtain ⟨d8,e8,_,o8⟩:=DataW.trod_int Tryz.underlying3 f8;obtain ⟨d9,e9,_,o9⟩:=DataW.trod_int Tryz.underlying3 f9;obtain ⟨d10,e10,_,o10⟩:=DataW.trod_int Tryz.underlying3 f10;simp at e0 e1 e2 e3 e4 e5 e7 e8 e9 e10
     subst e0;subst e1;subst e2;subst e3;subst e4;subst e5;subst e7;subst e8;subst e9;subst e10;obtain ⟨L,hs,hn,hl,ho⟩:=oe f6 w6;exact ⟨⟨⟨d0,s1.data.toList,d2,d3,d4,s5.data.toList,L,s7.data.toList,d8,d9,d10⟩,a,l,c⟩,by simp only [oH];rw [← mK s1,← mK s5,← mK s7],hs,hn,bounds_i64 o3,bounds_i64 o8,bounds_i64 o9⟩
theorem jr {H:Type}{enc:TypeId × Value→H}{W:World}{base:Nat}{sp:Nat→Bool}{held:Bool}{fuel:Nat}{a:Option Addr}{len cap:Nat}{x:DataW H × List MemPlace}
 (h:DataW.trod enc Tryz.prog W base sp held fuel 25 [.slice a len cap]=some x) (hw:∀ m∈x.1.weights Tryz.prog 25,m≤reachBytes):∃ D,BO W a len cap D:=by
 obtain ⟨L,h1,h2,h3,h4,_,h6⟩:=lh Tryz.underlying25 ip (by omega) EJ (fun t cs=>cs=oH t∧tS W t) (fun _ _ _ h hw=>by obtain ⟨t,e,ho⟩:=n9 h hw;exact ⟨t,⟨e,ho⟩,by rw [e];rfl⟩) h hw;refine ⟨L,h1,h2,h3,fun i hi=>?_,fun y hy=>?_⟩
 ·obtain ⟨b,o,cs,e,⟨rfl,_⟩,hc⟩:=h6 i hi;exact ⟨b,o,e,qE.of hc⟩
 ·obtain ⟨i,hi,rfl⟩:=List.getElem_of_mem hy;obtain ⟨b,o,cs,e,⟨_,ho⟩,hc⟩:=h6 i hi;exact ho
theorem mO:Tryz.prog.cellsOf 24=9:=by kernel_rfl
theorem Br:Tryz.prog.cellsOf 22=1:=by kernel_rfl
theorem pO {H:Type}{enc:TypeId × Value→H}{W:World}{base:Nat}{sp:Nat→Bool}{held:Bool}{fuel:Nat}{cs:List Value}{x:DataW H × List MemPlace}
 (h:DataW.trod enc Tryz.prog W base sp held fuel 24 cs=some x) (hw:∀ m∈x.1.weights Tryz.prog 24,m≤reachBytes):∃ t:Cg,cs=Dq t∧mW W t.mo t.m t.mc t.l:=by
 obtain ⟨xs,n,rfl,rfl,hlen,hxs,hf⟩:=DataW.trod_struct Tryz.underlying24 h;rw [mO] at hlen;match cs,hlen with
 | [v0,v1,v2,v3,v4,v5,v6,v7,v8],_ =>
   match xs,hxs with
   | [y0,y1,y2,y3,y4,y5,y6,y7,y8],_ =>
     have f0:DataW.trod enc Tryz.prog W base sp held n 22 [v0]=some y0:=by
      have h:DataW.trod enc Tryz.prog W base sp held n 22 (([v0,v1,v2,v3,v4,v5,v6,v7,v8].drop 0).take (Tryz.prog.cellsOf 22))=some y0:=hf 0 _ rfl;rw [Br] at h;exact h
     have w0:∀ m∈y0.1.weights Tryz.prog 22,m≤reachBytes:=dC Tryz.underlying24 hw (j:=0) rfl rfl
     have f1:DataW.trod enc Tryz.prog W base sp held n 3 [v1]=some y1:=by
      have h:DataW.trod enc Tryz.prog W base sp held n 3 (([v0,v1,v2,v3,v4,v5,v6,v7,v8].drop 1).take (Tryz.prog.cellsOf 3))=some y1:=hf 1 _ rfl;rw [dX] at h;exact h
     have f2:DataW.trod enc Tryz.prog W base sp held n 3 [v2]=some y2:=by
      have h:DataW.trod enc Tryz.prog W base sp held n 3 (([v0,v1,v2,v3,v4,v5,v6,v7,v8].drop 2).take (Tryz.prog.cellsOf 3))=some y2:=hf 2 _ rfl;rw [dX] at h;exact h
     have f3:DataW.trod enc Tryz.prog W base sp held n 3 [v3]=some y3:=by
      have h:DataW.trod enc Tryz.prog W base sp held n 3 (([v0,v1,v2,v3,v4,v5,v6,v7,v8].drop 3).take (Tryz.prog.cellsOf 3))=some y3:=hf 3 _ rfl;rw [dX] at h;exact h
     have f4:DataW.trod enc Tryz.prog W base sp held n 3 [v4]=some y4:=by
      have h:DataW.trod enc Tryz.prog W base sp held n 3 (([v0,v1,v2,v3,v4,v5,v6,v7,v8].drop 4).take (Tryz.prog.cellsOf 3))=some y4:=hf 4 _ rfl;rw [dX] at h;exact h
     have f5:DataW.trod enc Tryz.prog W base sp held n 3 [v5]=some y5:=by
      have h:DataW.trod enc Tryz.prog W base sp held n 3 (([v0,v1,v2,v3,v4,v5,v6,v7,v8].drop 5).take (Tryz.prog.cellsOf 3))=some y5:=hf 5 _ rfl;rw [dX] at h;exact h
     have f6:DataW.trod enc Tryz.prog W base sp held n 3 [v6]=some y6:=by
      have h:DataW.trod enc Tryz.prog W base sp held n 3 (([v0,v1,v2,v3,v4,v5,v6,v7,v8].drop 6).take (Tryz.prog.cellsOf 3))=some y6:=hf 6 _ rfl;rw [dX] at h;exact h
     have f7:DataW.trod enc Tryz.prog W base sp held n 3 [v7]=some y7:=by
      have h:DataW.trod enc Tryz.prog W base sp held n 3 (([v0,v1,v2,v3,v4,v5,v6,v7,v8].drop 7).take (Tryz.prog.cellsOf 3))=some y7:=hf 7 _ rfl;rw [dX] at h;exact h
     have f8:DataW.trod enc Tryz.prog W base sp held n 3 [v8]=some y8:=by
      have h:DataW.trod enc Tryz.prog W base sp held n 3 (([v0,v1,v2,v3,v4,v5,v6,v7,v8].drop 8).take (Tryz.prog.cellsOf 3))=some y8:=hf 8 _ rfl;rw [dX] at h;exact h
     have hv0:∃ a l c,v0=.slice a l c:=by
      rcases DataW.trod_slice Tryz.underlying22 f0 with ⟨h0,_⟩ | ⟨a,l,c,_,_,_,_,h0,_⟩
      ·simp at h0;exact ⟨_,_,_,h0⟩
      ·simp at h0;exact ⟨_,_,_,h0⟩
     obtain ⟨a,l,c,rfl⟩:=hv0;obtain ⟨d1,e1,_,o1⟩:=DataW.trod_int Tryz.underlying3 f1;obtain ⟨d2,e2,_,o2⟩:=DataW.trod_int Tryz.underlying3 f2;obtain ⟨d3,e3,_,o3⟩:=DataW.trod_int Tryz.underlying3 f3;obtain ⟨d4,e4,_,o4⟩:=DataW.trod_int Tryz.underlying3 f4;obtain ⟨d5,e5,_,o5⟩:=DataW.trod_int Tryz.underlying3 f5;obtain ⟨d6,e6,_,o6⟩:=DataW.trod_int Tryz.underlying3 f6;obtain ⟨d7,e7,_,o7⟩:=DataW.trod_int Tryz.underlying3 f7;obtain ⟨d8,e8,_,o8⟩:=DataW.trod_int Tryz.underlying3 f8;simp at e1 e2 e3 e4 e5 e6 e7 e8
     subst e1;subst e2;subst e3;subst e4;subst e5;subst e6;subst e7;subst e8;obtain ⟨L,hs⟩:=ut f0 w0;exact ⟨⟨a,l,c,L,d1,d2,d3,d4,d5,d6,d7,d8⟩,rfl,hs⟩
end Go.Proofs.YtgpnlidnbldiiaaGreat
