/-
  Texts of this claim that are laid as one: MaNew, MaAwake.
-/
import Derived.Test.YtgpnlidnbldiiaaGreatMaApplyr
import Derived.Test.YtgpnlidnbldiiaaGreatQ17r
import Derived.Test.YtgpnlidnbldiiaaGreatQ14r
set_option maxHeartbeats 8000000
/-
 New;what a machine tells.
-/
namespace Go.Proofs.YtgpnlidnbldiiaaGreat
open Go.RowKit
def NewMP (D:List Nat) (l:List Int) (al sz:Int) (w:World) (e:Ending) (w':World):Prop :=
 ((May l∧1≤al∧al≤8∧1≤sz∧sz≤16)∧∃ (b:Nat) (p:Pl) (F:List Nat),e=.returned (.tuple #[.pointer (some ⟨b,0,none⟩),.int .i64 0])∧LiveM w w' F D b p al sz.toNat (newM l)) ∨
 (¬ (May l∧1≤al∧al≤8∧1≤sz∧sz≤16)∧e=.returned (.tuple #[.pointer none,.int .i64 1])∧Kept [] w w')
theorem live_made {w w1 w3:World}{D:List Nat}(hD:∀ k∈D,k < w.heap.size) {l:List Int}(hl:May l) {al:Int}(h0:1≤al) (h1:al≤8) {sz:Nat}(hs0:1≤sz) (hs1:sz≤16) {pe pg:Nat}{S:List Nat}(hK1:Kept [] w w1) (hE:EpA w.heap.size w1 pe al [⟨0,l⟩]) (hG:GAt w3 pg S voidG) (hK3:Kept [] (w1.alloc (.cells #[.int .i64 (sz:Int),.slice none 0 0] 126)) w3) (hS:∀ k∈S,w1.heap.size+1≤k) :
 LiveM w (w3.alloc (.cells #[.int .i64 al,.int .i64 (sz:Int),.int .i64 0,.pointer (some ⟨pe,0,none⟩),.pointer (some ⟨w1.heap.size,0,none⟩),.pointer (some ⟨pg,0,none⟩)] 70)) (ownF w3.heap.size w1.heap.size S (.slice none 0 0)) D w3.heap.size ⟨pe,w1.heap.size,pg⟩ al sz (newM l):=by
 have hKa:Kept [] w1 (w1.alloc (.cells #[.int .i64 (sz:Int),.slice none 0 0] 126)):=(Kept.refl _ _).alloc _
 have hKb:Kept [] w3 (w3.alloc (.cells #[.int .i64 al,.int .i64 (sz:Int),.int .i64 0,.pointer (some ⟨pe,0,none⟩),.pointer (some ⟨w1.heap.size,0,none⟩),.pointer (some ⟨pg,0,none⟩)] 70)):=(Kept.refl _ _).alloc _
 have hz1:=hK1.size
 have hz3:=hK3.size
 rw [World.size_alloc] at hz3
 refine ⟨S,.slice none 0 0,[],⟨heap_alloc_new w3 _,hG.kept hKb,((TbA.new w1 sz hs0).kept hK3).kept hKb,((hE.kept hKa).kept hK3).kept hKb⟩,rfl,((hK1.trans hKa (by simp)).trans hK3 (by simp)).trans hKb (by simp),fun k hk=>?_,fun k hk=>?_,?_⟩
 ·rcases List.mem_cons.1 hk with rfl | hk
  ·omega
  ·rcases List.mem_cons.1 hk with rfl | hk
   ·exact hz1
   ·have:=hS k hk;omega
 ·have:=hD k hk
  rw [World.size_alloc]
  omega
 ·exact ⟨Int.le_refl _,by show (0:Int)≤_;omega,.void,Nat.zero_le _,fun x hx=>by simp [newM] at hx,okL_new hl,hs1,h0,h1⟩
set_option maxRecDepth 100000 in
theorem newM_call (w:World) (D:List Nat) (hD:∀ k∈D,k < w.heap.size) (ao:Option Addr) (n c:Nat) (l:List Int) (hS:SlI w ao n c l) (al sz:Int) :
 Calls Tryz.prog 8 #[.slice ao n c,.int .i64 al,.int .i64 sz] w fun e w'=>NewMP D l al sz w e w':=by
 have cE:=newE_call w ao n c l hS al
 have HD:=hide hD
 clear hS hD
 go_enter Tryz.func8,Tryz.ntmps8
 go_wp2_with fail
 refine cE.mono ?_
 rintro _ w1 (⟨⟨hl,h0,h1⟩,pe,rfl,hE,hK1⟩ | ⟨hn,rfl,hK1⟩)
 ·have cT:=newT_call w1 sz
  have HE:=hide hE
  have HK1:=hide hK1
  clear hE hK1 cE
  go_wp2_with fail
  refine cT.mono ?_
  rintro _ w2 (⟨hs0,hs1,rfl,rfl⟩ | ⟨hn,rfl,rfl⟩)
  ·have cG:=fun W=>gnew_call W
   obtain ⟨zn,rfl⟩:∃ zn:Nat,sz=zn:=⟨sz.toNat,by omega⟩
   clear cT
   go_wp2_with fail
   refine (cG _).mono ?_
   rintro _ w3 ⟨pg,S,rfl,hG,hK3,hS⟩
   rw [World.size_alloc] at hS
   have HLv:=hide (live_made HD.out hl h0 h1 (by omega) (by omega) HK1.out HE.out hG hK3 hS)
   clear hG hK3 hS cG
   go_wp2_with fail
   go_ret2
   exact .inl ⟨⟨hl,h0,h1,hs0,hs1⟩,_,_,_,rfl,HLv.out⟩
  ·clear cT
   go_wp2_with fail
   go_ret2
   exact .inr ⟨fun h=>hn ⟨h.2.2.2.1,h.2.2.2.2⟩,rfl,HK1.out⟩
 ·have HK1:=hide hK1
  clear hK1 cE
  go_wp2_with fail
  go_ret2
  exact .inr ⟨fun h=>hn ⟨h.1,h.2.1,h.2.2.1⟩,rfl,HK1.out⟩
theorem LiveM.elder {w00 w0 w:World}{F D:List Nat}{b:Nat}{p:Pl}{al:Int}{sz:Nat}{m:Ma}(h:LiveM w0 w F D b p al sz m) (k:Kept [] w00 w0):LiveM w00 w F D b p al sz m:=by
 have hz:=k.size
 obtain ⟨S,vt,X,h1,h2,h3,h4,h5,h6⟩:=h
 obtain ⟨v,e1,e2,e3⟩:=h1.e
 exact ⟨S,vt,X,⟨h1.at_,h1.g,h1.t,v,by omega,e2,row_mono e3 hz⟩,h2,k.trans h3 (by simp),fun i hi=>Nat.le_trans hz (h4 i hi),h5,h6⟩
variable {w0 w : World} {F D : List Nat} {b : Nat} {p : Pl} {al : Int} {sz : Nat} {m : Ma}
set_option maxRecDepth 100000 in
theorem mApplied_call (h:LiveM w0 w F D b p al sz m):Calls Tryz.prog 20 #[.pointer (some ⟨b,0,none⟩)] w fun e w'=>e=.returned (.int .i64 (m.a))∧w'=w:=by
 obtain ⟨m0,m1,m2,m3,m4,m5⟩:=h.cells
 have cT:=thereM_call w b
 clear h
 go_enter Tryz.func20,Tryz.ntmps20
 go_wp2_with fail
 refine cT.mono ?_
 rintro _ W ⟨rfl,hW0⟩
 obtain rfl:=hW0.symm
 go_wp2_with fail
 go_ret
 exact ⟨rfl,rfl⟩
set_option maxRecDepth 100000 in
theorem mAlpha_call (h:LiveM w0 w F D b p al sz m):Calls Tryz.prog 18 #[.pointer (some ⟨b,0,none⟩)] w fun e w'=>e=.returned (.int .i64 (al))∧w'=w:=by
 obtain ⟨m0,m1,m2,m3,m4,m5⟩:=h.cells
 have cT:=thereM_call w b
 clear h
 go_enter Tryz.func18,Tryz.ntmps18
 go_wp2_with fail
 refine cT.mono ?_
 rintro _ W ⟨rfl,hW0⟩
 obtain rfl:=hW0.symm
 go_wp2_with fail
 go_ret
 exact ⟨rfl,rfl⟩
set_option maxRecDepth 100000 in
theorem mSize_call (h:LiveM w0 w F D b p al sz m):Calls Tryz.prog 19 #[.pointer (some ⟨b,0,none⟩)] w fun e w'=>e=.returned (.int .i64 ((sz:Int)))∧w'=w:=by
 obtain ⟨m0,m1,m2,m3,m4,m5⟩:=h.cells
 have cT:=thereM_call w b
 clear h
 go_enter Tryz.func19,Tryz.ntmps19
 go_wp2_with fail
 refine cT.mono ?_
 rintro _ W ⟨rfl,hW0⟩
 obtain rfl:=hW0.symm
 go_wp2_with fail
 go_ret
 exact ⟨rfl,rfl⟩
set_option maxRecDepth 100000 in
theorem mHead_call (h:LiveM w0 w F D b p al sz m):Calls Tryz.prog 28 #[.pointer (some ⟨b,0,none⟩)] w fun e w'=>e=.returned (.int .i64 (m.g.cs.length:Int))∧w'=w:=by
 obtain ⟨m0,m1,m2,m3,m4,m5⟩:=h.cells
 have cT:=thereM_call w b
 have cH:Calls Tryz.prog 68 #[.pointer (some ⟨p.g,0,none⟩)] w fun e w'=>e=.returned (.int .i64 (m.g.cs.length:Int))∧w'=w:=by
  obtain ⟨S,vt,X,h1,_⟩:=h
  exact ghead_call h1.g
 clear h
 generalize m.g.cs.length=gl at *
 go_enter Tryz.func28,Tryz.ntmps28
 go_wp2_with fail
 refine cT.mono ?_
 rintro _ W ⟨rfl,hW0⟩
 obtain rfl:=hW0.symm
 go_wp2_with fail
 refine cH.mono ?_
 rintro _ W ⟨rfl,hW0⟩
 obtain rfl:=hW0.symm
 go_wp2_with fail
 go_ret
 exact ⟨rfl,rfl⟩
def TellI (l:List Int) (w:World) (e:Ending) (w':World):Prop:=∃ v,e=.returned v∧RowI w.heap.size w' v l∧Kept [] w w'
def TellE (L:List Ep) (w:World) (e:Ending) (w':World):Prop:=∃ v X,e=.returned v∧RowA w.heap.size w' v X∧OwnA w.heap.size w' X∧X.map Prod.fst=L∧Kept [] w w'
theorem partU (h:LiveM w0 w F D b p al sz m) (hl:m.e.length≤1000):Calls Tryz.prog 95 #[.pointer (some ⟨p.e,0,none⟩)] w fun e w'=>TellI (told (uniB m.e)) w e w':=by
 obtain ⟨S,vt,X,h1,_,_,_,_,h6⟩:=h
 exact union_call _ w p.e al m.e h1.e h6.e.1 (by omega)
theorem partA (h:LiveM w0 w F D b p al sz m) (hl:m.e.length≤1000) (z:Int):Calls Tryz.prog 97 #[.pointer (some ⟨p.e,0,none⟩),.int .i64 z] w fun e w'=>TellI (atL m.e z) w e w':=by
 obtain ⟨S,vt,X,h1,_,_,_,_,h6⟩:=h
 exact at_call _ w p.e al m.e h1.e h6.e (by omega) z
theorem partE (h:LiveM w0 w F D b p al sz m) (hl:m.e.length≤1000):Calls Tryz.prog 56 #[.pointer (some ⟨p.e,0,none⟩)] w fun e w'=>TellE m.e w e w':=by
 obtain ⟨S,vt,X,h1,_,_,_,_,h6⟩:=h
 exact list_call _ w p.e al m.e h1.e h6.e (by omega)
theorem partS (h:LiveM w0 w F D b p al sz m):Calls Tryz.prog 57 #[.pointer (some ⟨p.t,0,none⟩)] w fun e w'=>CopS w m.s e w':=by
 obtain ⟨S,vt,X,h1,_,_,_,_,h6⟩:=h
 exact all_call h1.t (by have:=h6.sl;have:=h6.z1;omega) h6.so
theorem partC (h:LiveM w0 w F D b p al sz m) (hl:m.g.cs.length≤10000):Calls Tryz.prog 58 #[.pointer (some ⟨p.g,0,none⟩)] w fun e w'=>CopP w m.g.cs e w':=by
 obtain ⟨S,vt,X,h1,_,_,_,_,h6⟩:=h
 obtain ⟨v,q,t,mb,K,hG,_⟩:=h1.g
 exact commits_call hG h6.g.wf hl
set_option maxRecDepth 100000 in
theorem mUnion_call (h:LiveM w0 w F D b p al sz m) (hl:m.e.length≤1000): Calls Tryz.prog 48 #[.pointer (some ⟨b,0,none⟩)] w fun e w'=>TellI (told (uniB m.e)) w e w':=by
 obtain ⟨m0,m1,m2,m3,m4,m5⟩:=h.cells
 have cT:=thereM_call w b
 have cH:=partU h hl
 clear h
 generalize (told (uniB m.e))=gl at *
 go_enter Tryz.func48,Tryz.ntmps48
 go_wp2_with fail
 refine cT.mono ?_
 rintro _ W ⟨rfl,hW0⟩
 obtain rfl:=hW0.symm
 go_wp2_with fail
 refine cH.mono ?_
 rintro _ w1 ⟨v1,rfl,hr,hk⟩
 go_wp2_with fail
 go_ret
 exact ⟨v1,rfl,hr,hk⟩
set_option maxRecDepth 100000 in
theorem mEpochs_call (h:LiveM w0 w F D b p al sz m) (hl:m.e.length≤1000): Calls Tryz.prog 21 #[.pointer (some ⟨b,0,none⟩)] w fun e w'=>TellE m.e w e w':=by
 obtain ⟨m0,m1,m2,m3,m4,m5⟩:=h.cells
 have cT:=thereM_call w b
 have cH:=partE h hl
 clear h
 generalize m.e=gl at *
 go_enter Tryz.func21,Tryz.ntmps21
 go_wp2_with fail
 refine cT.mono ?_
 rintro _ W ⟨rfl,hW0⟩
 obtain rfl:=hW0.symm
 go_wp2_with fail
 refine cH.mono ?_
 rintro _ w1 ⟨v1,X1,rfl,hr,ho,hx,hk⟩
 go_wp2_with fail
 go_ret
 exact ⟨v1,X1,rfl,hr,ho,hx,hk⟩
set_option maxRecDepth 100000 in
theorem mSessions_call (h:LiveM w0 w F D b p al sz m):Calls Tryz.prog 22 #[.pointer (some ⟨b,0,none⟩)] w fun e w'=>CopS w m.s e w':=by
 obtain ⟨m0,m1,m2,m3,m4,m5⟩:=h.cells
 have cT:=thereM_call w b
 have cH:=partS h
 clear h
 generalize m.s=gl at *
 go_enter Tryz.func22,Tryz.ntmps22
 go_wp2_with fail
 refine cT.mono ?_
 rintro _ W ⟨rfl,hW0⟩
 obtain rfl:=hW0.symm
 go_wp2_with fail
 refine cH.mono ?_
 rintro _ w1 ⟨v1,X1,rfl,h1,h2,h3,h4⟩
 go_wp2_with fail
 go_ret
 exact ⟨v1,X1,rfl,h1,h2,h3,h4⟩
set_option maxRecDepth 100000 in
theorem mCommits_call (h:LiveM w0 w F D b p al sz m) (hl:m.g.cs.length≤10000): Calls Tryz.prog 23 #[.pointer (some ⟨b,0,none⟩)] w fun e w'=>CopP w m.g.cs e w':=by
 obtain ⟨m0,m1,m2,m3,m4,m5⟩:=h.cells
 have cT:=thereM_call w b
 have cH:=partC h hl
 clear h
 generalize m.g.cs=gl at *
 go_enter Tryz.func23,Tryz.ntmps23
 go_wp2_with fail
 refine cT.mono ?_
 rintro _ W ⟨rfl,hW0⟩
 obtain rfl:=hW0.symm
 go_wp2_with fail
 refine cH.mono ?_
 rintro _ w1 ⟨v1,X1,rfl,h1,h2,h3,h4⟩
 go_wp2_with fail
 go_ret
 exact ⟨v1,X1,rfl,h1,h2,h3,h4⟩
set_option maxRecDepth 100000 in
theorem mAt_call (h:LiveM w0 w F D b p al sz m) (hl:m.e.length≤1000) (z:Int):Calls Tryz.prog 50 #[.pointer (some ⟨b,0,none⟩),.int .i64 z] w fun e w'=>TellI (atL m.e z) w e w':=by
 obtain ⟨m0,m1,m2,m3,m4,m5⟩:=h.cells
 have cT:=thereM_call w b
 have cH:=partA h hl z
 clear h
 generalize atL m.e z=gl at *
 go_enter Tryz.func50,Tryz.ntmps50
 go_wp2_with fail
 refine cT.mono ?_
 rintro _ W ⟨rfl,hW0⟩
 obtain rfl:=hW0.symm
 go_wp2_with fail
 refine cH.mono ?_
 rintro _ w1 ⟨v1,rfl,hr,hk⟩
 go_wp2_with fail
 go_ret
 exact ⟨v1,rfl,hr,hk⟩
end Go.Proofs.YtgpnlidnbldiiaaGreat
namespace Go.Proofs.YtgpnlidnbldiiaaGreat
open Go.RowKit
theorem may3:May [0,1,2]:=by decide
set_option maxRecDepth 100000 in
theorem fresh_call (w:World) (D:List Nat) (hD:∀ k∈D,k < w.heap.size):Calls Tryz.prog 16 #[] w fun e w'=>∃ (b:Nat) (p:Pl) (F:List Nat),e=.returned (.pointer (some ⟨b,0,none⟩))∧LiveM w w' F D b p 2 3 (newM [0,1,2]):=by
 have hKa:Kept [] w (w.alloc (.cells #[.int .i64 0,.int .i64 1,.int .i64 2] 3)):=(Kept.refl _ _).alloc _
 have cN:=newM_call _ D (fun k hk=>Nat.lt_of_lt_of_le (hD k hk) hKa.size) _ 3 3 [0,1,2] (SlI.lit w [0,1,2] 3 #[.int .i64 0,.int .i64 1,.int .i64 2] 3 rfl rfl (by omega)) 2 3
 have HKa:=hide hKa
 clear hD hKa
 go_enter Tryz.func16,Tryz.ntmps16
 go_wp2_with fail
 refine cN.mono ?_
 rintro _ w1 (⟨_,b,p,F,rfl,hL⟩ | ⟨hn,_⟩)
 ·have HL:=hide (hL.elder HKa.out)
  clear hL cN
  go_wp2_with fail
  go_ret
  exact ⟨b,p,F,rfl,HL.out⟩
 ·exact absurd ⟨may3,by omega,by omega,by omega,by omega⟩ hn
def rqL (s q bs:Int) (l:List UInt8) (d:Int):Rq:=⟨2,[],s,q,bs,[],[⟨l,false,d⟩],[],0,0,0⟩
theorem rq_res {w:World}{g:Nat}{cs:Array Value}{fn:Func}{p:Tmp}(hr:fn.results=#[.cell p 43]) (tmps:Array Value) (hp:tmps.getD p undef=.pointer (some ⟨g,0,none⟩)) (hg:w.heap[g]?=some (.cells cs 43 (0,0))) (hs:cs.size=11) :
 (results fn tmps).run Tryz.prog w=.ok (.agg cs) w :=
 results_cell_row hr tmps w g _ cs _ _ hp hg Tryz.underlying43 rfl (by rw [hs];exact size_rq)
set_option maxRecDepth 100000 in
theorem landL_call (w:World) (s q bs:Int) (l:List UInt8) (d:Int) (hl:l.length≤300) (hq:-9223372036854775808≤q∧q≤9223372036854775807):Calls Tryz.prog 27 #[.int .i64 s,.int .i64 q,.int .i64 bs,.string (str l),.int .u64 d] w fun e w'=>∃ x:Rm,x.r=rqL s q bs l d∧e=.returned (rqV x)∧RqOk w' x∧Kept [] w w':=by
 have hq1:=hq
 have hl1:=hl
 clear hq hl
 go_enter Tryz.func27,Tryz.ntmps27
 go_wp2_with fail
 have hA:=(Below.heap_alloc (w.alloc (.cells #[.int .i64 2,.string ⟨#[]⟩,.int .i64 s,.int .i64 q,.int .i64 bs,.string ⟨#[]⟩,.slice (some ⟨w.heap.size+1,0,none⟩) 1 1,.string ⟨#[]⟩,.int .i64 0,.int .i64 0,.int .i64 0] 43)) (.cells #[.string (str l),.bool false,.int .u64 d] 60) w.heap.size (by simp)).trans (heap_alloc_new w _)
 refine bodyPost_ret (rq_res (by rfl) _ (by rfl) hA rfl) rfl ?_
 have hS:=SlC.lit (w.alloc (.cells #[.int .i64 2,.string ⟨#[]⟩,.int .i64 s,.int .i64 q,.int .i64 bs,.string ⟨#[]⟩,.slice (some ⟨w.heap.size+1,0,none⟩) 1 1,.string ⟨#[]⟩,.int .i64 0,.int .i64 0,.int .i64 0] 43)) [⟨l,false,d⟩] rfl (by simp [maxLen]) rfl
 rw [World.size_alloc] at hS
 exact ⟨⟨rqL s q bs l d,some ⟨w.heap.size+1,0,none⟩,1,1⟩,rfl,rfl,⟨⟨hS,(fun h=>by cases h),hq1,by simp [rqL],by simp [rqL]⟩,by simp [rqL],by simp [rqL],by simp [rqL],by simp [rqL],by simpa [rqL] using hl1⟩,((Kept.refl _ _).alloc _).alloc _⟩
def xOp:Rm:=⟨⟨1,[99],0,0,0,[],[],[],0,0,0⟩,none,0,0⟩
theorem xOp_ok (w:World):RqOk w xOp:=⟨⟨⟨rfl,Nat.le_refl _,Nat.zero_le _,fun i hi=>by simp [xOp] at hi⟩,fun _=>rfl,by simp [xOp],by simp [xOp],by simp [xOp]⟩,by simp [xOp],by simp [xOp],by simp [xOp],by simp [xOp],by simp [xOp]⟩
def exM1:Ma:=⟨1,voidG,[⟨1,0,[99],vtC 0⟩],[⟨0,[0,1,2]⟩]⟩
def exV2:Vt:=⟨2,0,1,[],0,[],0⟩
def exM2:Ma:=⟨2,exG1,[⟨1,1,[99],exV2⟩],[⟨0,[0,1,2]⟩]⟩
def exM3:Ma:=⟨3,exG1,[⟨1,1,[99],exV2⟩],[⟨0,[0,1,2]⟩]⟩
theorem exA1:apV 2 (newM [0,1,2]) xOp.r=⟨1,1,0,[],0,[],0⟩∧apM 2 3 (newM [0,1,2]) xOp.r=exM1:=by
 have hw:wordB false [99]=true:=by decide
 constructor
 ·unfold apV verV
  rw [if_neg (by decide),if_neg (show ¬ xOp.r.k=0 by decide),if_pos (show xOp.r.k=1 by decide)]
  show (if wordB false [99]=true then _ else _)=_
  rw [if_pos hw];rfl
 ·rw [ap_eq (by decide)]
  unfold verG verS verE
  rw [show newQ (newM [0,1,2]) xOp.r=false from by decide,if_neg (show ¬ xOp.r.k=0 by decide),if_pos (show xOp.r.k=1 by decide)]
  show (⟨_,_,if wordB false [99]=true then _ else _,_⟩:Ma)=_
  rw [if_pos hw];rfl
theorem exDo:doV 2 exM1 (rqL 1 1 0 [97] 5)=exV2:=by
 unfold doV
 rw [if_pos (show (rqL 1 1 0 [97] 5).k=2 from rfl)]
 show vdT (landV voidG 0 [] [⟨[97],false,5⟩])=_
 rw [ex_1v];rfl
theorem exDoG:doG exM1 (rqL 1 1 0 [97] 5)=exG1:=by
 unfold doG
 rw [if_pos (show (rqL 1 1 0 [97] 5).k=2 from rfl)]
 exact ex_1g
theorem exA2:apV 2 exM1 (rqL 1 1 0 [97] 5)=exV2∧apM 2 3 exM1 (rqL 1 1 0 [97] 5)=exM2:=by
 have hq:askV 1 1 exM1.s=(vtC 0,false):=by decide
 have hn:newQ exM1 (rqL 1 1 0 [97] 5)=true:=by decide
 have hv:verV 2 exM1 (rqL 1 1 0 [97] 5)=exV2:=by rw [(ver_new (al:=2) hn).2.2.2];exact exDo
 constructor
 ·rw [show apV 2 exM1 (rqL 1 1 0 [97] 5)=verV 2 exM1 (rqL 1 1 0 [97] 5) from if_neg (by decide)]
  exact hv
 ·rw [ap_eq (by decide)]
  unfold verG verS verE
  rw [hn,if_pos rfl,exDoG,if_neg (by decide),if_neg (by decide),show (askV (rqL 1 1 0 [97] 5).s (rqL 1 1 0 [97] 5).q exM1.s).2=false from by rw [show askV (rqL 1 1 0 [97] 5).s (rqL 1 1 0 [97] 5).q exM1.s=_ from hq],if_neg (by simp),exDo]
  rfl
theorem exA3:apV 2 exM2 (rqL 1 1 0 [97] 5)=exV2∧apM 2 3 exM2 (rqL 1 1 0 [97] 5)=exM3:=by
 have hq:askV 1 1 exM2.s=(exV2,true):=by decide
 have hn:newQ exM2 (rqL 1 1 0 [97] 5)=false:=by decide
 constructor
 ·rw [show apV 2 exM2 (rqL 1 1 0 [97] 5)=verV 2 exM2 (rqL 1 1 0 [97] 5) from if_neg (by decide)]
  unfold verV
  rw [if_neg (by decide),if_neg (by decide),show askV (rqL 1 1 0 [97] 5).s (rqL 1 1 0 [97] 5).q exM2.s=_ from hq]
  rfl
 ·rw [ap_eq (by decide)]
  unfold verG verS verE
  rw [hn,if_neg (by decide),if_neg (by decide),show askV (rqL 1 1 0 [97] 5).s (rqL 1 1 0 [97] 5).q exM2.s=_ from hq]
  rfl
theorem vd_new (w:World) (v:Vt) (u:Value):VdB (w.alloc (.cells (vdL v u).toArray 39)) w.heap.size v u:=heap_alloc_new w _
set_option maxRecDepth 100000 in
theorem awakeM_call (w:World):Calls Tryz.prog 6 #[] w fun e w'=>e=.returned (.bool true)∧Kept [] w w':=by
 have cF:=fresh_call w [] (fun k hk=>by cases hk)
 go_enter Tryz.func6,Tryz.ntmps6
 go_wp2_with fail
 refine cF.mono ?_
 rintro _ w1 ⟨b,p,F,rfl,hL1⟩
 have cA:=apply_call hL1 (by decide) (by decide) xOp (xOp_ok w1)
 rw [exA1.1,exA1.2] at cA
 unfold rqV xOp str at cA
 clear hL1 cF
 dsimp only at cA
 go_wp2_with fail
 refine cA.mono ?_
 rintro _ w2 ⟨a2,n2,c2,rfl,_,F2,hL2,_,_,_⟩
 obtain ⟨w3,hw3⟩:∃ w3,w3=w2.alloc (.cells (vdL ⟨1,1,0,[],0,[],0⟩ (.slice a2 n2 c2)).toArray 39):=⟨_,rfl⟩
 have hK3:Kept [] w2 w3:=by rw [hw3];exact (Kept.refl _ _).alloc _
 have HB3:Hid (VdB w3 w2.heap.size ⟨1,1,0,[],0,[],0⟩ (.slice a2 n2 c2)):=by rw [hw3];exact vd_new _ _ _
 have HL3:=hide (hL2.kept hK3)
 have cL:=landL_call w3 1 1 0 [97] 5 (by simp) (by omega)
 unfold str at cL
 unfold vtV
 clear hL2 cA hK3
 unfold vdL at hw3
 go_wp2_with fail
 rw [← hw3]
 clear hw3
 refine cL.mono ?_
 rintro _ w4 ⟨x4,hx4,rfl,hR4,hK4⟩
 have cA:=apply_call (HL3.out.kept hK4) (by decide) (by decide) x4 hR4
 rw [hx4,exA2.1,exA2.2] at cA
 have HB4:=hide (HB3.out.kept hK4)
 clear cL hx4 hR4 hK4
 go_wp2_with fail
 refine cA.mono ?_
 rintro _ w5 ⟨a5,n5,c5,rfl,_,F5,hL5,hF5,_,_⟩
 have HB5:=hide (HB4.out.fr hF5)
 obtain ⟨w6,hw6⟩:∃ w6,w6=w5.alloc (.cells (vdL exV2 (.slice a5 n5 c5)).toArray 39):=⟨_,rfl⟩
 have hK6:Kept [] w5 w6:=by rw [hw6];exact (Kept.refl _ _).alloc _
 have HB6:=hide (HB5.out.kept hK6)
 have HC6:Hid (VdB w6 w5.heap.size exV2 (.slice a5 n5 c5)):=by rw [hw6];exact vd_new _ _ _
 have HL6:=hide (hL5.kept hK6)
 have cL:=landL_call w6 1 1 0 [97] 5 (by simp) (by omega)
 unfold str at cL
 unfold vtV
 clear hL5 hF5 cA hK6
 unfold vdL at hw6
 go_wp2_with fail
 rw [← hw6]
 clear hw6
 refine cL.mono ?_
 rintro _ w7 ⟨x7,hx7,rfl,hR7,hK7⟩
 have cA:=apply_call (HL6.out.kept hK7) (by decide) (by decide) x7 hR7
 rw [hx7,exA3.1,exA3.2] at cA
 have HB7:=hide (HB6.out.kept hK7)
 have HC7:=hide (HC6.out.kept hK7)
 clear cL hx7 hR7 hK7
 go_wp2_with fail
 refine cA.mono ?_
 rintro _ w8 ⟨a8,n8,c8,rfl,_,F8,hL8,hF8,_,_⟩
 obtain ⟨w9,hw9⟩:∃ w9,w9=w8.alloc (.cells (vdL exV2 (.slice a8 n8 c8)).toArray 39):=⟨_,rfl⟩
 have hK9:Kept [] w8 w9:=by rw [hw9];exact (Kept.refl _ _).alloc _
 have HB9:=hide ((HB7.out.fr hF8).kept hK9)
 have HC9:=hide ((HC7.out.fr hF8).kept hK9)
 have HD9:Hid (VdB w9 w8.heap.size exV2 (.slice a8 n8 c8)):=by rw [hw9];exact vd_new _ _ _
 have HL9:=hide (hL8.kept hK9)
 obtain ⟨b0,b1,_,_,_,_,_⟩:=HB9.out.cells
 obtain ⟨g0,_,_,_,_,_,_⟩:=HC9.out.cells
 obtain ⟨d0,_,d2,_,_,_,_⟩:=HD9.out.cells
 have cH:=mHead_call HL9.out
 have cP:=mApplied_call HL9.out
 unfold vtV
 clear hL8 hF8 cA hK9
 unfold vdL at hw9
 go_upto_region 7 with fail
 rw [← hw9]
 clear hw9
 unfold exV2 at g0 d0 d2
 dsimp only [exM3] at cH cP
 rw [show exG1.cs.length=1 from rfl] at cH
 go_wp2_with (first
  | (go_at_call 28;refine cH.mono ?_;clear cH;rintro _ W ⟨rfl,hW0⟩;obtain rfl:=hW0.symm)
  | (go_at_call 20;refine cP.mono ?_;clear cP;rintro _ W ⟨rfl,hW0⟩;obtain rfl:=hW0.symm))
 go_ret
 exact ⟨rfl,HL9.out.keeps⟩
end Go.Proofs.YtgpnlidnbldiiaaGreat
