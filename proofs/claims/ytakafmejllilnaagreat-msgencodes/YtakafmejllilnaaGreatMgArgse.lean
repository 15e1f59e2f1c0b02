/-
  Messages that came in, as they are read.
-/
import Derived.Test.YtakafmejllilnaaGreatW6e
import Derived.Test.YtakafmejllilnaaGreatW5e
set_option maxRecDepth 100000
namespace Go.Proofs.YtakafmejllilnaaGreat
open Go.ChangeShapes Go.WideShapes Go.ChangeAt Go.RowKit Go.Deep
theorem iM:Tryz.prog.cellsOf 55=13:=by kernel_rfl
theorem jx:Tryz.prog.cellsOf 36=27:=by kernel_rfl
theorem th:Tryz.prog.cellsOf 30=1:=by kernel_rfl
theorem uP:Tryz.prog.cellsOf 23=1:=by kernel_rfl
theorem gW {H:Type}{enc:TypeId × Value→H}{W:World}{base:Nat}{sp:Nat→Bool}{held:Bool}{fuel:Nat}{cs:List Value}{x:DataW H × List MemPlace}
 (h:DataW.trod enc Tryz.prog W base sp held fuel 29 cs=some x) (hw:∀ m∈x.1.weights Tryz.prog 29,m≤reachBytes):∃ t:Rm,cs=aR t∧dw [] W t∧ei t.r.c:=by
 obtain ⟨xs,n,rfl,rfl,hlen,hxs,hf⟩:=DataW.trod_struct Tryz.underlying29 h;rw [ez] at hlen;match cs,hlen with
 | [v0,v1,v2,v3,v4,v5,v6,v7,v8,v9,v10],_ =>
   match xs,hxs with
   | [y0,y1,y2,y3,y4,y5,y6,y7,y8,y9,y10],_ =>
     have f0:DataW.trod enc Tryz.prog W base sp held n 3 [v0]=some y0:=by
      have h:DataW.trod enc Tryz.prog W base sp held n 3 (([v0,v1,v2,v3,v4,v5,v6,v7,v8,v9,v10].drop 0).take (Tryz.prog.cellsOf 3))=some y0:=hf 0 _ rfl;rw [ct] at h;exact h
     have f1:DataW.trod enc Tryz.prog W base sp held n 9 [v1]=some y1:=by
      have h:DataW.trod enc Tryz.prog W base sp held n 9 (([v0,v1,v2,v3,v4,v5,v6,v7,v8,v9,v10].drop 1).take (Tryz.prog.cellsOf 9))=some y1:=hf 1 _ rfl;rw [iZ] at h;exact h
     have w1:∀ m∈y1.1.weights Tryz.prog 9,m≤reachBytes:=aE Tryz.underlying29 hw (j:=1) rfl rfl
     have f2:DataW.trod enc Tryz.prog W base sp held n 3 [v2]=some y2:=by
      have h:DataW.trod enc Tryz.prog W base sp held n 3 (([v0,v1,v2,v3,v4,v5,v6,v7,v8,v9,v10].drop 2).take (Tryz.prog.cellsOf 3))=some y2:=hf 2 _ rfl;rw [ct] at h;exact h
     have f3:DataW.trod enc Tryz.prog W base sp held n 3 [v3]=some y3:=by
      have h:DataW.trod enc Tryz.prog W base sp held n 3 (([v0,v1,v2,v3,v4,v5,v6,v7,v8,v9,v10].drop 3).take (Tryz.prog.cellsOf 3))=some y3:=hf 3 _ rfl;rw [ct] at h;exact h
     have f4:DataW.trod enc Tryz.prog W base sp held n 3 [v4]=some y4:=by
      have h:DataW.trod enc Tryz.prog W base sp held n 3 (([v0,v1,v2,v3,v4,v5,v6,v7,v8,v9,v10].drop 4).take (Tryz.prog.cellsOf 3))=some y4:=hf 4 _ rfl;rw [ct] at h;exact h
     have f5:DataW.trod enc Tryz.prog W base sp held n 9 [v5]=some y5:=by
      have h:DataW.trod enc Tryz.prog W base sp held n 9 (([v0,v1,v2,v3,v4,v5,v6,v7,v8,v9,v10].drop 5).take (Tryz.prog.cellsOf 9))=some y5:=hf 5 _ rfl;rw [iZ] at h;exact h
     have w5:∀ m∈y5.1.weights Tryz.prog 9,m≤reachBytes:=aE Tryz.underlying29 hw (j:=5) rfl rfl
     have f6:DataW.trod enc Tryz.prog W base sp held n 27 [v6]=some y6:=by
      have h:DataW.trod enc Tryz.prog W base sp held n 27 (([v0,v1,v2,v3,v4,v5,v6,v7,v8,v9,v10].drop 6).take (Tryz.prog.cellsOf 27))=some y6:=hf 6 _ rfl;rw [o9] at h;exact h
     have w6:∀ m∈y6.1.weights Tryz.prog 27,m≤reachBytes:=aE Tryz.underlying29 hw (j:=6) rfl rfl
     have f7:DataW.trod enc Tryz.prog W base sp held n 9 [v7]=some y7:=by
      have h:DataW.trod enc Tryz.prog W base sp held n 9 (([v0,v1,v2,v3,v4,v5,v6,v7,v8,v9,v10].drop 7).take (Tryz.prog.cellsOf 9))=some y7:=hf 7 _ rfl;rw [iZ] at h;exact h
     have w7:∀ m∈y7.1.weights Tryz.prog 9,m≤reachBytes:=aE Tryz.underlying29 hw (j:=7) rfl rfl
     have f8:DataW.trod enc Tryz.prog W base sp held n 3 [v8]=some y8:=by
      have h:DataW.trod enc Tryz.prog W base sp held n 3 (([v0,v1,v2,v3,v4,v5,v6,v7,v8,v9,v10].drop 8).take (Tryz.prog.cellsOf 3))=some y8:=hf 8 _ rfl;rw [ct] at h;exact h
     have f9:DataW.trod enc Tryz.prog W base sp held n 3 [v9]=some y9:=by
      have h:DataW.trod enc Tryz.prog W base sp held n 3 (([v0,v1,v2,v3,v4,v5,v6,v7,v8,v9,v10].drop 9).take (Tryz.prog.cellsOf 3))=some y9:=hf 9 _ rfl;rw [ct] at h;exact h
     have f10:DataW.trod enc Tryz.prog W base sp held n 3 [v10]=some y10:=by
      have h:DataW.trod enc Tryz.prog W base sp held n 3 (([v0,v1,v2,v3,v4,v5,v6,v7,v8,v9,v10].drop 10).take (Tryz.prog.cellsOf 3))=some y10:=hf 10 _ rfl;rw [ct] at h;exact h
     obtain ⟨d0,e0,_,_⟩:=DataW.trod_int Tryz.underlying3 f0;obtain ⟨s1,e1,rfl,_⟩:=DataW.trod_string Tryz.underlying9 f1;have l1:s1.data.toList.length≤140737488351232:=by have:=w1 s1.data.toList.length (by simp [DataW.weights]);unfold reachBytes at this;omega
     obtain ⟨d2,e2,_,_⟩:=DataW.trod_int Tryz.underlying3 f2;obtain ⟨d3,e3,_,_⟩:=DataW.trod_int Tryz.underlying3 f3;obtain ⟨d4,e4,_,_⟩:=DataW.trod_int Tryz.underlying3 f4;obtain ⟨s5,e5,rfl,_⟩:=DataW.trod_string Tryz.underlying9 f5;have l5:s5.data.toList.length≤140737488351232:=by have:=w5 s5.data.toList.length (by simp [DataW.weights]);unfold reachBytes at this;omega
     have hv6:∃ a l c,v6=.slice a l c:=by
      rcases DataW.trod_slice Tryz.underlying27 f6 with ⟨h0,_⟩ | ⟨a,l,c,_,_,_,_,h0,_⟩
      ·simp at h0;exact ⟨_,_,_,h0⟩
      ·simp at h0;exact ⟨_,_,_,h0⟩
     obtain ⟨a,l,c,rfl⟩:=hv6;obtain ⟨s7,e7,rfl,_⟩:=DataW.trod_string Tryz.underlying9 f7;have l7:s7.data.toList.length≤140737488351232:=by have:=w7 s7.data.toList.length (by simp [DataW.weights]);unfold reachBytes at this;omega
     obtain ⟨d8,e8,_,_⟩:=DataW.trod_int Tryz.underlying3 f8;obtain ⟨d9,e9,_,_⟩:=DataW.trod_int Tryz.underlying3 f9;obtain ⟨d10,e10,_,_⟩:=DataW.trod_int Tryz.underlying3 f10;simp at e0 e1 e2 e3 e4 e5 e7 e8 e9 e10
     subst e0;subst e1;subst e2;subst e3;subst e4;subst e5;subst e7;subst e8;subst e9;subst e10;obtain ⟨L,hs,hn,hl,ho⟩:=gT f6 w6;exact ⟨⟨⟨d0,s1.data.toList,d2,d3,d4,s5.data.toList,L,s7.data.toList,d8,d9,d10⟩,a,l,c⟩,by simp only [aR];rw [← jd s1,← jd s5,← jd s7],⟨hs,hn,(fun _ _ _ hm=>by cases hm),l1,l5,l7,fun z hz=>(ho z hz).1⟩,fun z hz=>(ho z hz).2⟩
theorem oy {H:Type}{enc:TypeId × Value→H}{W:World}{base:Nat}{sp:Nat→Bool}{held:Bool}{fuel:Nat}{cs:List Value}{x:DataW H × List MemPlace}
 (h:DataW.trod enc Tryz.prog W base sp held fuel 55 cs=some x) (hw:∀ m∈x.1.weights Tryz.prog 55,m≤reachBytes):∃ t:Vm,cs=db t∧dw [] W t.x∧ei t.x.r.c:=by
 obtain ⟨xs,n,rfl,rfl,hlen,hxs,hf⟩:=DataW.trod_struct Tryz.underlying55 h;rw [iM] at hlen;match cs,hlen with
 | [v0,v1,v2,v3,v4,v5,v6,v7,v8,v9,v10,v11,v12],_ =>
   match xs,hxs with
   | [y0,y1,y2],_ =>
     have f0:DataW.trod enc Tryz.prog W base sp held n 3 [v0]=some y0:=by
      have h:DataW.trod enc Tryz.prog W base sp held n 3 (([v0,v1,v2,v3,v4,v5,v6,v7,v8,v9,v10,v11,v12].drop 0).take (Tryz.prog.cellsOf 3))=some y0:=hf 0 _ rfl;rw [ct] at h;exact h
     have f1:DataW.trod enc Tryz.prog W base sp held n 3 [v1]=some y1:=by
      have h:DataW.trod enc Tryz.prog W base sp held n 3 (([v0,v1,v2,v3,v4,v5,v6,v7,v8,v9,v10,v11,v12].drop 1).take (Tryz.prog.cellsOf 3))=some y1:=hf 1 _ rfl;rw [ct] at h;exact h
     have f2:DataW.trod enc Tryz.prog W base sp held n 29 [v2,v3,v4,v5,v6,v7,v8,v9,v10,v11,v12]=some y2:=by
      have h:DataW.trod enc Tryz.prog W base sp held n 29 (([v0,v1,v2,v3,v4,v5,v6,v7,v8,v9,v10,v11,v12].drop 2).take (Tryz.prog.cellsOf 29))=some y2:=hf 2 _ rfl;rw [ez] at h;exact h
     have w2:∀ m∈y2.1.weights Tryz.prog 29,m≤reachBytes:=aE Tryz.underlying55 hw (j:=2) rfl rfl;obtain ⟨d0,e0,_,_⟩:=DataW.trod_int Tryz.underlying3 f0;obtain ⟨d1,e1,_,_⟩:=DataW.trod_int Tryz.underlying3 f1;obtain ⟨q,e2,hq,hu⟩:=gW f2 w2;simp at e0 e1
     subst e0;subst e1;refine ⟨⟨d0,d1,q⟩,?_,hq,hu⟩;show _ :: _ :: _=_ :: _ :: aR q;rw [← e2]
theorem mP {H:Type}{enc:TypeId × Value→H}{W:World}{base:Nat}{sp:Nat→Bool}{held:Bool}{fuel:Nat}{a:Option Addr}{len cap:Nat}{x:DataW H × List MemPlace}
 (h:DataW.trod enc Tryz.prog W base sp held fuel 30 [.slice a len cap]=some x) (hw:∀ m∈x.1.weights Tryz.prog 30,m≤reachBytes):∃ D,ob W a len cap D∧∀ z∈D,ei z.x.r.c:=by
 obtain ⟨L,h1,h2,h3,h4,_,h6⟩:=i9 Tryz.underlying30 iM (by omega) (⟨0,0,je⟩:Vm) (fun t cs=>cs=db t∧dw [] W t.x∧ei t.x.r.c) (fun _ _ _ h hw=>by obtain ⟨t,e,ho⟩:=oy h hw;exact ⟨t,⟨e,ho⟩,by rw [e];rfl⟩) h hw;refine ⟨L,⟨h1,h2,h3,h4,fun i hi=>?_,fun y hy=>?_⟩,fun y hy=>?_⟩
 ·obtain ⟨b,o,cs,e,⟨rfl,_⟩,hc⟩:=h6 i hi;refine ⟨b,o,e,fun j v hv=>?_⟩
  have hj:j < 13:=by
   by_cases hl:j < 13
   ·exact hl
   ·rw [List.getElem?_eq_none (by rw [eW];omega)] at hv;cases hv
  rw [hc j hj,hv]
 ·obtain ⟨i,hi,rfl⟩:=List.getElem_of_mem hy;obtain ⟨b,o,cs,e,⟨_,ho,_⟩,hc⟩:=h6 i hi;exact ho
 ·obtain ⟨i,hi,rfl⟩:=List.getElem_of_mem hy;obtain ⟨b,o,cs,e,⟨_,_,ho⟩,hc⟩:=h6 i hi;exact ho
theorem kz {H:Type}{enc:TypeId × Value→H}{W:World}{base:Nat}{sp:Nat→Bool}{held:Bool}{fuel:Nat}{cs:List Value}{x:DataW H × List MemPlace}
 (h:DataW.trod enc Tryz.prog W base sp held fuel 36 cs=some x) (hw:∀ m∈x.1.weights Tryz.prog 36,m≤reachBytes):∃ y:Mm,cs=aJ y∧bH W y:=by
 obtain ⟨xs,n,rfl,rfl,hlen,hxs,hf⟩:=DataW.trod_struct Tryz.underlying36 h;rw [jx] at hlen;match cs,hlen with
 | [v0,v1,v2,v3,v4,v5,v6,v7,v8,v9,v10,v11,v12,v13,v14,v15,v16,v17,v18,v19,v20,v21,v22,v23,v24,v25,v26],_ =>
   match xs,hxs with
   | [y0,y1,y2,y3,y4,y5,y6,y7,y8,y9,y10],_ =>
     have f0:DataW.trod enc Tryz.prog W base sp held n 3 [v0]=some y0:=by
      have h:DataW.trod enc Tryz.prog W base sp held n 3 (([v0,v1,v2,v3,v4,v5,v6,v7,v8,v9,v10,v11,v12,v13,v14,v15,v16,v17,v18,v19,v20,v21,v22,v23,v24,v25,v26].drop 0).take (Tryz.prog.cellsOf 3))=some y0:=hf 0 _ rfl;rw [ct] at h;exact h
     have f1:DataW.trod enc Tryz.prog W base sp held n 3 [v1]=some y1:=by
      have h:DataW.trod enc Tryz.prog W base sp held n 3 (([v0,v1,v2,v3,v4,v5,v6,v7,v8,v9,v10,v11,v12,v13,v14,v15,v16,v17,v18,v19,v20,v21,v22,v23,v24,v25,v26].drop 1).take (Tryz.prog.cellsOf 3))=some y1:=hf 1 _ rfl;rw [ct] at h;exact h
     have f2:DataW.trod enc Tryz.prog W base sp held n 3 [v2]=some y2:=by
      have h:DataW.trod enc Tryz.prog W base sp held n 3 (([v0,v1,v2,v3,v4,v5,v6,v7,v8,v9,v10,v11,v12,v13,v14,v15,v16,v17,v18,v19,v20,v21,v22,v23,v24,v25,v26].drop 2).take (Tryz.prog.cellsOf 3))=some y2:=hf 2 _ rfl;rw [ct] at h;exact h
     have f3:DataW.trod enc Tryz.prog W base sp held n 3 [v3]=some y3:=by
      have h:DataW.trod enc Tryz.prog W base sp held n 3 (([v0,v1,v2,v3,v4,v5,v6,v7,v8,v9,v10,v11,v12,v13,v14,v15,v16,v17,v18,v19,v20,v21,v22,v23,v24,v25,v26].drop 3).take (Tryz.prog.cellsOf 3))=some y3:=hf 3 _ rfl;rw [ct] at h;exact h
     have f4:DataW.trod enc Tryz.prog W base sp held n 3 [v4]=some y4:=by
      have h:DataW.trod enc Tryz.prog W base sp held n 3 (([v0,v1,v2,v3,v4,v5,v6,v7,v8,v9,v10,v11,v12,v13,v14,v15,v16,v17,v18,v19,v20,v21,v22,v23,v24,v25,v26].drop 4).take (Tryz.prog.cellsOf 3))=some y4:=hf 4 _ rfl;rw [ct] at h;exact h
     have f5:DataW.trod enc Tryz.prog W base sp held n 3 [v5]=some y5:=by
      have h:DataW.trod enc Tryz.prog W base sp held n 3 (([v0,v1,v2,v3,v4,v5,v6,v7,v8,v9,v10,v11,v12,v13,v14,v15,v16,v17,v18,v19,v20,v21,v22,v23,v24,v25,v26].drop 5).take (Tryz.prog.cellsOf 3))=some y5:=hf 5 _ rfl;rw [ct] at h;exact h
     have f6:DataW.trod enc Tryz.prog W base sp held n 29 [v6,v7,v8,v9,v10,v11,v12,v13,v14,v15,v16]=some y6:=by
      have h:DataW.trod enc Tryz.prog W base sp held n 29 (([v0,v1,v2,v3,v4,v5,v6,v7,v8,v9,v10,v11,v12,v13,v14,v15,v16,v17,v18,v19,v20,v21,v22,v23,v24,v25,v26].drop 6).take (Tryz.prog.cellsOf 29))=some y6:=hf 6 _ rfl;rw [ez] at h;exact h
     have w6:∀ m∈y6.1.weights Tryz.prog 29,m≤reachBytes:=aE Tryz.underlying36 hw (j:=6) rfl rfl
     have f7:DataW.trod enc Tryz.prog W base sp held n 30 [v17]=some y7:=by
      have h:DataW.trod enc Tryz.prog W base sp held n 30 (([v0,v1,v2,v3,v4,v5,v6,v7,v8,v9,v10,v11,v12,v13,v14,v15,v16,v17,v18,v19,v20,v21,v22,v23,v24,v25,v26].drop 17).take (Tryz.prog.cellsOf 30))=some y7:=hf 7 _ rfl;rw [th] at h;exact h
     have w7:∀ m∈y7.1.weights Tryz.prog 30,m≤reachBytes:=aE Tryz.underlying36 hw (j:=7) rfl rfl
     have f8:DataW.trod enc Tryz.prog W base sp held n 23 [v18]=some y8:=by
      have h:DataW.trod enc Tryz.prog W base sp held n 23 (([v0,v1,v2,v3,v4,v5,v6,v7,v8,v9,v10,v11,v12,v13,v14,v15,v16,v17,v18,v19,v20,v21,v22,v23,v24,v25,v26].drop 18).take (Tryz.prog.cellsOf 23))=some y8:=hf 8 _ rfl;rw [uP] at h;exact h
     have w8:∀ m∈y8.1.weights Tryz.prog 23,m≤reachBytes:=aE Tryz.underlying36 hw (j:=8) rfl rfl
     have f9:DataW.trod enc Tryz.prog W base sp held n 3 [v19]=some y9:=by
      have h:DataW.trod enc Tryz.prog W base sp held n 3 (([v0,v1,v2,v3,v4,v5,v6,v7,v8,v9,v10,v11,v12,v13,v14,v15,v16,v17,v18,v19,v20,v21,v22,v23,v24,v25,v26].drop 19).take (Tryz.prog.cellsOf 3))=some y9:=hf 9 _ rfl;rw [ct] at h;exact h
     have f10:DataW.trod enc Tryz.prog W base sp held n 34 [v20,v21,v22,v23,v24,v25,v26]=some y10:=by
      have h:DataW.trod enc Tryz.prog W base sp held n 34 (([v0,v1,v2,v3,v4,v5,v6,v7,v8,v9,v10,v11,v12,v13,v14,v15,v16,v17,v18,v19,v20,v21,v22,v23,v24,v25,v26].drop 20).take (Tryz.prog.cellsOf 34))=some y10:=hf 10 _ rfl;rw [ge] at h;exact h
     have w10:∀ m∈y10.1.weights Tryz.prog 34,m≤reachBytes:=aE Tryz.underlying36 hw (j:=10) rfl rfl;obtain ⟨d0,e0,_,_⟩:=DataW.trod_int Tryz.underlying3 f0;obtain ⟨d1,e1,_,_⟩:=DataW.trod_int Tryz.underlying3 f1;obtain ⟨d2,e2,_,_⟩:=DataW.trod_int Tryz.underlying3 f2;obtain ⟨d3,e3,_,_⟩:=DataW.trod_int Tryz.underlying3 f3;obtain ⟨d4,e4,_,_⟩:=DataW.trod_int Tryz.underlying3 f4;obtain ⟨d5,e5,_,_⟩:=DataW.trod_int Tryz.underlying3 f5;obtain ⟨d9,e9,_,_⟩:=DataW.trod_int Tryz.underlying3 f9;obtain ⟨q,e6,hq,hu⟩:=gW f6 w6;obtain ⟨t,u,e10,ht,hi⟩:=kG f10 w10;obtain ⟨uo,un,uc,rfl⟩:=ht.one
     have hv7:∃ a l c,v17=.slice a l c:=by
      rcases DataW.trod_slice Tryz.underlying30 f7 with ⟨h0,_⟩ | ⟨a,l,c,_,_,_,_,h0,_⟩
      ·simp at h0;exact ⟨_,_,_,h0⟩
      ·simp at h0;exact ⟨_,_,_,h0⟩
     obtain ⟨vo,vn,vc,rfl⟩:=hv7
     have hv8:∃ a l c,v18=.slice a l c:=by
      rcases DataW.trod_slice Tryz.underlying23 f8 with ⟨h0,_⟩ | ⟨a,l,c,_,_,_,_,h0,_⟩
      ·simp at h0;exact ⟨_,_,_,h0⟩
      ·simp at h0;exact ⟨_,_,_,h0⟩
     obtain ⟨io,im,ic,rfl⟩:=hv8;obtain ⟨D,hD,hDu⟩:=mP f7 w7;obtain ⟨l,hl,ho,_⟩:=od f8;simp at e0 e1 e2 e3 e4 e5 e9
     subst e0;subst e1;subst e2;subst e3;subst e4;subst e5;subst e9;obtain rfl:=hD.l;obtain rfl:=hl.1;refine ⟨⟨d0,d1,d2,d3,d4,d5,q,vo,vc,D,io,ic,l,d9,t,uo,un,uc⟩,?_,⟨hq,hD,hl,ho,um ht hi,hu,hDu,wQ hi⟩⟩;rw [jj];show [_,_,_,_,_,_]++([_,_,_,_,_,_,_,_,_,_,_]++[_,_,_,_,_,_,_,_,_,_])=_;rw [e6];have e11:∀ a b c:Value,[a,b,c]++u9 t (.slice uo un uc)=[a,b,c,.int .i64 t.c,.int .i64 t.s,.int .i64 t.r,.string (ac t.p),.int .u64 t.d,.slice uo un uc,.int .i64 t.m]:=fun _ _ _=>rfl;rw [← e11,← e10];rfl
end Go.Proofs.YtakafmejllilnaaGreat
