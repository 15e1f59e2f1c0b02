/-
  Texts of this claim that are laid as one: MaReq, MaMem, MaTh, MaNew.
-/
import Derived.Test.YtddhmfildfdbdaaGreatQ1r
import Derived.Test.YtddhmfildfdbdaaGreatQ3r
import Derived.Test.YtddhmfildfdbdaaGreatQ12r
import Derived.Test.YtddhmfildfdbdaaGreatQ2r
import Derived.Test.YtddhmfildfdbdaaGreatQ10r
import Derived.Test.YtddhmfildfdbdaaGreatQ14r
import Derived.Test.YtddhmfildfdbdaaGreatQ16r
import Derived.Test.YtddhmfildfdbdaaGreatQ17r
import Derived.Test.YtddhmfildfdbdaaGreatQ11r
set_option maxHeartbeats 8000000
/-
 Requests in memory.
-/
namespace Go.Proofs.YtddhmfildfdbdaaGreat
open Go.RowKit
structure Pl where
 e:Nat
 t:Nat
 g:Nat
structure McA (w:World) (b:Nat) (p:Pl) (al:Int) (sz:Nat) (S:List Nat) (vt:Value) (X:List (Se × Value)) (B:Nat) (D:List Nat) (m:Ma):Prop where
 at_:w.heap[b]?=some (.cells #[.int .i64 al,.int .i64 (sz:Int),.int .i64 m.a,.pointer (some ⟨p.e,0,none⟩),.pointer (some ⟨p.t,0,none⟩),.pointer (some ⟨p.g,0,none⟩)] 44 (0,0))
 g:GAt w p.g S m.g
 t:TbA (fun k=>k ∉ S∧k ∉ D) w p.t sz vt X m.s
 e:EpA B w p.e al m.e
structure MaW (sz:Nat) (al:Int) (m:Ma):Prop where
 a0:0≤m.a
 a1:m.a≤1099511627776
 g:Reach m.g
 sl:m.s.length≤sz
 so:∀ x∈m.s,okS x
 e:OkL m.e
 z1:sz≤16
 l0:1≤al
 l1:al≤8
def ownF (b pt:Nat) (S:List Nat) (vt:Value):List Nat:=b :: (S++ownT pt vt)
def LiveM (w0 w:World) (F D:List Nat) (b:Nat) (p:Pl) (al:Int) (sz:Nat) (m:Ma):Prop :=
 ∃ S vt X,McA w b p al sz S vt X w0.heap.size D m∧F=ownF b p.t S vt∧Kept [] w0 w∧(∀ k∈b :: p.t :: S,w0.heap.size≤k)∧(∀ k∈D,k < w.heap.size)∧MaW sz al m
theorem ko_block {w:World}{u:Value}{k:List Com}{P:Nat→Prop}(h:KoP P w u k) {j:Nat}(hj:u.ownBlock=some j):j < w.heap.size:=by
 obtain ⟨⟨K,hr,_⟩,_⟩:=h
 obtain ⟨cur,hh⟩:=row_block hr hj
 exact lt_of_at hh
theorem EpA.keep {B:Nat}{S:List Nat}{Ts:List TypeId}{w w':World}{p:Nat}{al:Int}{L:List Ep}(h:EpA B w p al L) (k:Kept S w w') (hT:Typed w S Ts) (h1:102 ∉ Ts) (h2:99 ∉ Ts):EpA B w' p al L:=by
 obtain ⟨v,a,b,c⟩:=h
 exact ⟨v,a,k.typed hT b h1,row_typed k hT c h2⟩
theorem TbA.typed {P:Nat→Prop}{w:World}{b sz:Nat}{v:Value}{X:List (Se × Value)}{L:List Se}(h:TbA P w b sz v X L) {k:Nat}(hk:k∈ownT b v):∃ cur t,w.heap[k]?=some (.cells cur t (0,0))∧(t=104∨t=71):=by
 rcases List.mem_cons.1 hk with rfl | hk
 ·exact ⟨_,_,h.at_,.inl rfl⟩
 ·obtain ⟨cur,hh⟩:=h.row.block (mem_own.1 hk)
  exact ⟨_,_,hh,.inr rfl⟩
theorem LiveM.keeps {w0 w:World}{F D:List Nat}{b:Nat}{p:Pl}{al:Int}{sz:Nat}{m:Ma}(h:LiveM w0 w F D b p al sz m):Kept [] w0 w:=by
 obtain ⟨S,vt,X,h1,h2,h3,_⟩:=h
 exact h3
theorem McA.kept {w w':World}{b:Nat}{al:Int}{sz:Nat}{p:Pl}{S:List Nat}{vt:Value}{X:List (Se × Value)}{B:Nat}{D:List Nat}{m:Ma}(h:McA w b p al sz S vt X B D m) (k:Kept [] w w'):McA w' b p al sz S vt X B D m :=
 ⟨k.at h.at_ (by simp),h.g.kept k,h.t.kept k,h.e.kept k⟩
theorem LiveM.kept {w0 w w':World}{F D:List Nat}{b:Nat}{p:Pl}{al:Int}{sz:Nat}{m:Ma}(h:LiveM w0 w F D b p al sz m) (k:Kept [] w w'):LiveM w0 w' F D b p al sz m:=by
 obtain ⟨S,vt,X,h1,h2,h3,h4,h5,h6⟩:=h
 exact ⟨S,vt,X,h1.kept k,h2,h3.trans k (by simp),h4,fun i hi=>Nat.lt_of_lt_of_le (h5 i hi) k.size,h6⟩
structure McC (w:World) (b:Nat) (p:Pl) (al:Int) (sz:Nat) (a:Int):Prop where
 m0:w.cell? ⟨b,0,none⟩=some (.int .i64 al)
 m1:w.cell? ⟨b,1,none⟩=some (.int .i64 (sz:Int))
 m2:w.cell? ⟨b,2,none⟩=some (.int .i64 a)
 m3:w.cell? ⟨b,3,none⟩=some (.pointer (some ⟨p.e,0,none⟩))
 m4:w.cell? ⟨b,4,none⟩=some (.pointer (some ⟨p.t,0,none⟩))
 m5:w.cell? ⟨b,5,none⟩=some (.pointer (some ⟨p.g,0,none⟩))
theorem LiveM.at {w0 w:World}{F D:List Nat}{b:Nat}{p:Pl}{al:Int}{sz:Nat}{m:Ma}(h:LiveM w0 w F D b p al sz m):w.heap[b]?=some (.cells #[.int .i64 al,.int .i64 (sz:Int),.int .i64 m.a,.pointer (some ⟨p.e,0,none⟩),.pointer (some ⟨p.t,0,none⟩),.pointer (some ⟨p.g,0,none⟩)] 44 (0,0)):=by
 obtain ⟨S,vt,X,h1,_⟩:=h;exact h1.at_
theorem LiveM.cells {w0 w:World}{F D:List Nat}{b:Nat}{p:Pl}{al:Int}{sz:Nat}{m:Ma}(h:LiveM w0 w F D b p al sz m):McC w b p al sz m.a :=
 ⟨cell_inC (k:=0) h.at rfl,cell_inC (k:=1) h.at rfl,cell_inC (k:=2) h.at rfl,cell_inC (k:=3) h.at rfl,cell_inC (k:=4) h.at rfl,cell_inC (k:=5) h.at rfl⟩
set_option maxRecDepth 100000 in
theorem thereM_call (w:World) (b:Nat):Calls Tryz.prog 16 #[.pointer (some ⟨b,0,none⟩)] w fun e w'=>e=.returned (.pointer (some ⟨b,0,none⟩))∧w'=w:=by
 go_enter Tryz.func16,Tryz.ntmps16
 go_wp2_with fail
 go_ret
 exact ⟨rfl,rfl⟩
def NewMP (D:List Nat) (l:List Int) (al sz:Int) (w:World) (e:Ending) (w':World):Prop :=
 ((May l∧1≤al∧al≤8∧1≤sz∧sz≤16)∧∃ (b:Nat) (p:Pl) (F:List Nat),e=.returned (.tuple #[.pointer (some ⟨b,0,none⟩),.int .i64 0])∧LiveM w w' F D b p al sz.toNat (newM l)) ∨
 (¬ (May l∧1≤al∧al≤8∧1≤sz∧sz≤16)∧e=.returned (.tuple #[.pointer none,.int .i64 1])∧Kept [] w w')
theorem live_made {w w1 w3:World}{D:List Nat}(hD:∀ k∈D,k < w.heap.size) {l:List Int}(hl:May l) {al:Int}(h0:1≤al) (h1:al≤8) {sz:Nat}(hs0:1≤sz) (hs1:sz≤16) {pe pg:Nat}{S:List Nat}(hK1:Kept [] w w1) (hE:EpA w.heap.size w1 pe al [⟨0,l⟩]) (hG:GAt w3 pg S voidG) (hK3:Kept [] (w1.alloc (.cells #[.int .i64 (sz:Int),.slice none 0 0] 104)) w3) (hS:∀ k∈S,w1.heap.size+1≤k) :
 LiveM w (w3.alloc (.cells #[.int .i64 al,.int .i64 (sz:Int),.int .i64 0,.pointer (some ⟨pe,0,none⟩),.pointer (some ⟨w1.heap.size,0,none⟩),.pointer (some ⟨pg,0,none⟩)] 44)) (ownF w3.heap.size w1.heap.size S (.slice none 0 0)) D w3.heap.size ⟨pe,w1.heap.size,pg⟩ al sz (newM l):=by
 have hKa:Kept [] w1 (w1.alloc (.cells #[.int .i64 (sz:Int),.slice none 0 0] 104)):=(Kept.refl _ _).alloc _
 have hKb:Kept [] w3 (w3.alloc (.cells #[.int .i64 al,.int .i64 (sz:Int),.int .i64 0,.pointer (some ⟨pe,0,none⟩),.pointer (some ⟨w1.heap.size,0,none⟩),.pointer (some ⟨pg,0,none⟩)] 44)):=(Kept.refl _ _).alloc _
 have hz1:=hK1.size
 have hz3:=hK3.size
 rw [World.size_alloc] at hz3
 refine ⟨S,.slice none 0 0,[],⟨heap_alloc_new w3 _,hG.kept hKb,((TbA.new w1 sz hs0).kept hK3).kept hKb,((hE.kept hKa).kept hK3).kept hKb⟩,rfl,((hK1.trans hKa (by simp)).trans hK3 (by simp)).trans hKb (by simp),fun k hk=>?_,fun k hk=>?_,?_⟩
 ·rcases List.mem_cons.1 hk with rfl | hk
  ·omega
  ·rcases List.mem_cons.1 hk with rfl | hk
   ·exact hz1
   ·have:=hS k hk;omega
 ·have:=hD k hk
  rw [World.size_alloc]
  omega
 ·exact ⟨Int.le_refl _,by show (0:Int)≤_;omega,.void,Nat.zero_le _,fun x hx=>by simp [newM] at hx,okL_new hl,hs1,h0,h1⟩
set_option maxRecDepth 100000 in
theorem newM_call (w:World) (D:List Nat) (hD:∀ k∈D,k < w.heap.size) (ao:Option Addr) (n c:Nat) (l:List Int) (hS:SlI w ao n c l) (al sz:Int) :
 Calls Tryz.prog 11 #[.slice ao n c,.int .i64 al,.int .i64 sz] w fun e w'=>NewMP D l al sz w e w':=by
 have cE:=newE_call w ao n c l hS al
 have HD:=hide hD
 clear hS hD
 go_enter Tryz.func11,Tryz.ntmps11
 go_wp2_with fail
 refine cE.mono ?_
 rintro _ w1 (⟨⟨hl,h0,h1⟩,pe,rfl,hE,hK1⟩ | ⟨hn,rfl,hK1⟩)
 ·have cT:=newT_call w1 sz
  have HE:=hide hE
  have HK1:=hide hK1
  clear hE hK1 cE
  go_wp2_with fail
  refine cT.mono ?_
  rintro _ w2 (⟨hs0,hs1,rfl,rfl⟩ | ⟨hn,rfl,rfl⟩)
  ·have cG:=fun W=>gnew_call W
   obtain ⟨zn,rfl⟩:∃ zn:Nat,sz=zn:=⟨sz.toNat,by omega⟩
   clear cT
   go_wp2_with fail
   refine (cG _).mono ?_
   rintro _ w3 ⟨pg,S,rfl,hG,hK3,hS⟩
   rw [World.size_alloc] at hS
   have HLv:=hide (live_made HD.out hl h0 h1 (by omega) (by omega) HK1.out HE.out hG hK3 hS)
   clear hG hK3 hS cG
   go_wp2_with fail
   go_ret2
   exact .inl ⟨⟨hl,h0,h1,hs0,hs1⟩,_,_,_,rfl,HLv.out⟩
  ·clear cT
   go_wp2_with fail
   go_ret2
   exact .inr ⟨fun h=>hn ⟨h.2.2.2.1,h.2.2.2.2⟩,rfl,HK1.out⟩
 ·have HK1:=hide hK1
  clear hK1 cE
  go_wp2_with fail
  go_ret2
  exact .inr ⟨fun h=>hn ⟨h.1,h.2.1,h.2.2.1⟩,rfl,HK1.out⟩
theorem LiveM.elder {w00 w0 w:World}{F D:List Nat}{b:Nat}{p:Pl}{al:Int}{sz:Nat}{m:Ma}(h:LiveM w0 w F D b p al sz m) (k:Kept [] w00 w0):LiveM w00 w F D b p al sz m:=by
 have hz:=k.size
 obtain ⟨S,vt,X,h1,h2,h3,h4,h5,h6⟩:=h
 obtain ⟨v,e1,e2,e3⟩:=h1.e
 exact ⟨S,vt,X,⟨h1.at_,h1.g,h1.t,v,by omega,e2,row_mono e3 hz⟩,h2,k.trans h3 (by simp),fun i hi=>Nat.le_trans hz (h4 i hi),h5,h6⟩
variable {w0 w : World} {F D : List Nat} {b : Nat} {p : Pl} {al : Int} {sz : Nat} {m : Ma}
set_option maxRecDepth 100000 in
theorem mApplied_call (h:LiveM w0 w F D b p al sz m):Calls Tryz.prog 8 #[.pointer (some ⟨b,0,none⟩)] w fun e w'=>e=.returned (.int .i64 (m.a))∧w'=w:=by
 obtain ⟨m0,m1,m2,m3,m4,m5⟩:=h.cells
 have cT:=thereM_call w b
 clear h
 go_enter Tryz.func8,Tryz.ntmps8
 go_wp2_with fail
 refine cT.mono ?_
 rintro _ W ⟨rfl,hW0⟩
 obtain rfl:=hW0.symm
 go_wp2_with fail
 go_ret
 exact ⟨rfl,rfl⟩
set_option maxRecDepth 100000 in
theorem mAlpha_call (h:LiveM w0 w F D b p al sz m):Calls Tryz.prog 35 #[.pointer (some ⟨b,0,none⟩)] w fun e w'=>e=.returned (.int .i64 (al))∧w'=w:=by
 obtain ⟨m0,m1,m2,m3,m4,m5⟩:=h.cells
 have cT:=thereM_call w b
 clear h
 go_enter Tryz.func35,Tryz.ntmps35
 go_wp2_with fail
 refine cT.mono ?_
 rintro _ W ⟨rfl,hW0⟩
 obtain rfl:=hW0.symm
 go_wp2_with fail
 go_ret
 exact ⟨rfl,rfl⟩
set_option maxRecDepth 100000 in
theorem mSize_call (h:LiveM w0 w F D b p al sz m):Calls Tryz.prog 36 #[.pointer (some ⟨b,0,none⟩)] w fun e w'=>e=.returned (.int .i64 ((sz:Int)))∧w'=w:=by
 obtain ⟨m0,m1,m2,m3,m4,m5⟩:=h.cells
 have cT:=thereM_call w b
 clear h
 go_enter Tryz.func36,Tryz.ntmps36
 go_wp2_with fail
 refine cT.mono ?_
 rintro _ W ⟨rfl,hW0⟩
 obtain rfl:=hW0.symm
 go_wp2_with fail
 go_ret
 exact ⟨rfl,rfl⟩
def TellE (L:List Ep) (w:World) (e:Ending) (w':World):Prop:=∃ v X,e=.returned v∧RowA w.heap.size w' v X∧OwnA w.heap.size w' X∧X.map Prod.fst=L∧Kept [] w w'
theorem partE (h:LiveM w0 w F D b p al sz m) (hl:m.e.length≤1000):Calls Tryz.prog 65 #[.pointer (some ⟨p.e,0,none⟩)] w fun e w'=>TellE m.e w e w':=by
 obtain ⟨S,vt,X,h1,_,_,_,_,h6⟩:=h
 exact list_call _ w p.e al m.e h1.e h6.e (by omega)
theorem partS (h:LiveM w0 w F D b p al sz m):Calls Tryz.prog 67 #[.pointer (some ⟨p.t,0,none⟩)] w fun e w'=>CopS w m.s e w':=by
 obtain ⟨S,vt,X,h1,_,_,_,_,h6⟩:=h
 exact all_call h1.t (by have:=h6.sl;have:=h6.z1;omega) h6.so
theorem partC (h:LiveM w0 w F D b p al sz m) (hl:m.g.cs.length≤10000):Calls Tryz.prog 70 #[.pointer (some ⟨p.g,0,none⟩)] w fun e w'=>CopP w m.g.cs e w':=by
 obtain ⟨S,vt,X,h1,_,_,_,_,h6⟩:=h
 obtain ⟨v,q,t,mb,K,hG,_⟩:=h1.g
 exact commits_call hG h6.g.wf hl
set_option maxRecDepth 100000 in
theorem mEpochs_call (h:LiveM w0 w F D b p al sz m) (hl:m.e.length≤1000): Calls Tryz.prog 38 #[.pointer (some ⟨b,0,none⟩)] w fun e w'=>TellE m.e w e w':=by
 obtain ⟨m0,m1,m2,m3,m4,m5⟩:=h.cells
 have cT:=thereM_call w b
 have cH:=partE h hl
 clear h
 generalize m.e=gl at *
 go_enter Tryz.func38,Tryz.ntmps38
 go_wp2_with fail
 refine cT.mono ?_
 rintro _ W ⟨rfl,hW0⟩
 obtain rfl:=hW0.symm
 go_wp2_with fail
 refine cH.mono ?_
 rintro _ w1 ⟨v1,X1,rfl,hr,ho,hx,hk⟩
 go_wp2_with fail
 go_ret
 exact ⟨v1,X1,rfl,hr,ho,hx,hk⟩
set_option maxRecDepth 100000 in
theorem mSessions_call (h:LiveM w0 w F D b p al sz m):Calls Tryz.prog 41 #[.pointer (some ⟨b,0,none⟩)] w fun e w'=>CopS w m.s e w':=by
 obtain ⟨m0,m1,m2,m3,m4,m5⟩:=h.cells
 have cT:=thereM_call w b
 have cH:=partS h
 clear h
 generalize m.s=gl at *
 go_enter Tryz.func41,Tryz.ntmps41
 go_wp2_with fail
 refine cT.mono ?_
 rintro _ W ⟨rfl,hW0⟩
 obtain rfl:=hW0.symm
 go_wp2_with fail
 refine cH.mono ?_
 rintro _ w1 ⟨v1,X1,rfl,h1,h2,h3,h4⟩
 go_wp2_with fail
 go_ret
 exact ⟨v1,X1,rfl,h1,h2,h3,h4⟩
set_option maxRecDepth 100000 in
theorem mCommits_call (h:LiveM w0 w F D b p al sz m) (hl:m.g.cs.length≤10000): Calls Tryz.prog 44 #[.pointer (some ⟨b,0,none⟩)] w fun e w'=>CopP w m.g.cs e w':=by
 obtain ⟨m0,m1,m2,m3,m4,m5⟩:=h.cells
 have cT:=thereM_call w b
 have cH:=partC h hl
 clear h
 generalize m.g.cs=gl at *
 go_enter Tryz.func44,Tryz.ntmps44
 go_wp2_with fail
 refine cT.mono ?_
 rintro _ W ⟨rfl,hW0⟩
 obtain rfl:=hW0.symm
 go_wp2_with fail
 refine cH.mono ?_
 rintro _ w1 ⟨v1,X1,rfl,h1,h2,h3,h4⟩
 go_wp2_with fail
 go_ret
 exact ⟨v1,X1,rfl,h1,h2,h3,h4⟩
end Go.Proofs.YtddhmfildfdbdaaGreat
