/-
  Texts of this claim that are laid as one: SeTab, SeList, SeUse, SeOpen.
-/
import Derived.Test.YtddhmfildfdbdaaGreatQ12r
import Derived.Test.YtddhmfildfdbdaaGreatQ2r
import Derived.ArgAppend
import Derived.Deep.RegionLawGrows
import Derived.Deep.AppendLies
import Derived.Deep.RegionHeld3
import Derived.Deep.Cut
set_option maxHeartbeats 4000000
/-
 A table in memory;made,place,placeOf.
-/
namespace Go.Proofs.YtddhmfildfdbdaaGreat
open Go.RowKit
variable {P : Nat → Prop}
structure TbA (P:Nat→Prop) (w:World) (b sz:Nat) (v:Value) (X:List (Se × Value)) (L:List Se):Prop where
 at_:w.heap[b]?=some (.cells #[.int .i64 sz,v] 104 (0,0))
 pos:1≤sz
 row:TRow w v X
 own:∀ x∈X,KoP P w x.2 x.1.v.k
 ses:X.map Prod.fst=L
def ownT (b:Nat) (v:Value):List Nat:=b :: v.ownBlock.toList
theorem TbA.keep {w w':World}{b sz:Nat}{v:Value}{X:List (Se × Value)}{L:List Se}(h:TbA P w b sz v X L) {S:List Nat}{Ts:List TypeId}(k:Kept S w w') (hS:∀ i∈ownT b v,i ∉ S) (hT:Typed w S Ts) (h1:76 ∉ Ts) (h2:116 ∉ Ts):TbA P w' b sz v X L :=
 ⟨k.at h.at_ (hS b (by simp [ownT])),h.pos,h.row.keep k (fun i hi=>hS i (by simp [ownT,hi])),fun x hx=>(h.own x hx).keep k hT h1 h2,h.ses⟩
theorem TbA.kept {w w':World}{b sz:Nat}{v:Value}{X:List (Se × Value)}{L:List Se}(h:TbA P w b sz v X L) (k:Kept [] w w'):TbA P w' b sz v X L :=
 h.keep k (by simp) (typed_nil w []) (by simp) (by simp)
theorem TbA.cells {w:World}{b sz:Nat}{v:Value}{X:List (Se × Value)}{L:List Se}(h:TbA P w b sz v X L):w.cell? ⟨b,0,none⟩=some (.int .i64 sz)∧w.cell? ⟨b,1,none⟩=some v :=
 ⟨cell_inC h.at_ rfl,cell_inC h.at_ rfl⟩
theorem TbA.len {w:World}{b sz:Nat}{v:Value}{X:List (Se × Value)}{L:List Se}(h:TbA P w b sz v X L):X.length=L.length:=by rw [← h.ses];simp
theorem TbA.sl {w:World}{b sz:Nat}{v:Value}{X:List (Se × Value)}{L:List Se}(h:TbA P w b sz v X L):∃ ao c,v=.slice ao X.length c∧SlS w ao X.length c X:=h.row.sl fun x hx=>(h.own x hx).ko
theorem made_callT {w:World}{b sz:Nat}{v:Value}{X:List (Se × Value)}{L:List Se}(h:TbA P w b sz v X L) :
 Calls Tryz.prog 92 #[.pointer (some ⟨b,0,none⟩)] w fun e w'=>e=.returned (.bool true)∧w'=w:=by
 obtain ⟨c0,_⟩:=h.cells
 have hp:=h.pos
 have hd:decide (0 < sz)=true:=by simp;omega
 clear h hp
 go_enter Tryz.func92,Tryz.ntmps92
 go_wp2
 go_ret
 exact ⟨rfl,rfl⟩
theorem eq_dec (a b:Int):(a==b)=decide (a=b):=by rw [Bool.eq_iff_iff];simp
theorem str_list (l:List UInt8):(str l).toList=l:=by rw [Go.ByteArray.toList_eq,str_data]
theorem str_dec (a b:List UInt8):((str a).toList==(str b).toList)=decide (a=b):=by rw [str_list,str_list,Bool.eq_iff_iff];simp
theorem byI_one (w:World) (x:Se) (ao:Option Addr) (n c p:Nat) (id:Int) (hp:w.cell? ⟨p,0,none⟩=some (.int .i64 id)) :
 Calls Tryz.prog 116 #[seV x (.slice ao n c),.pointer (some ⟨p,0,none⟩)] w fun e w'=>e=.returned (.bool (decide (x.i=id)))∧Kept [] w w':=by
 have hK:=(Kept.refl [] w).alloc (.cells #[.int .i64 x.i,.int .i64 x.q,.string (str x.n),.int .i64 x.v.c,.int .i64 x.v.s,.int .i64 x.v.r,.string (str x.v.p),.int .u64 x.v.d,.slice ao n c,.int .i64 x.v.m] 71)
 have hp2:=hK.cell hp (by simp)
 unfold seV
 go_enter Tryz.func116,Tryz.ntmps116
 go_wp2
 go_ret
 exact ⟨congrArg (fun z=>Ending.returned (.bool z)) (eq_dec _ _),hK⟩
theorem byN_one (w:World) (x:Se) (ao:Option Addr) (n c p:Nat) (nm:List UInt8) (hp:w.cell? ⟨p,0,none⟩=some (.string (str nm))) :
 Calls Tryz.prog 117 #[seV x (.slice ao n c),.pointer (some ⟨p,0,none⟩)] w fun e w'=>e=.returned (.bool (decide (x.n=nm)))∧Kept [] w w':=by
 have hK:=(Kept.refl [] w).alloc (.cells #[.int .i64 x.i,.int .i64 x.q,.string (str x.n),.int .i64 x.v.c,.int .i64 x.v.s,.int .i64 x.v.r,.string (str x.v.p),.int .u64 x.v.d,.slice ao n c,.int .i64 x.v.m] 71)
 have hp2:=hK.cell hp (by simp)
 unfold seV
 go_enter Tryz.func117,Tryz.ntmps117
 go_wp2
 go_ret
 exact ⟨congrArg (fun z=>Ending.returned (.bool z)) (str_dec _ _),hK⟩
def plV:Option Nat→Value
 | some i=>.int .i64 (i:Int)
 | none=>.int .i64 (-1)
def IxI (w:World) (L:List Se) (f:Se→Bool) (iv:Value) (wr:World):Prop:=∃ j:Nat,iv=.int .i64 (j:Int)∧j≤L.length∧Hid (∀ k (h:k < L.length),k < j→f L[k]=false)∧Hid (Kept [] w wr)
theorem find_at {L:List Se}{f:Se→Bool}{j:Nat}(hj:j < L.length) (h:∀ k (h:k < L.length),k < j→f L[k]=false) (ht:f L[j]=true):L.findIdx? f=some j:=by
 rw [List.findIdx?_eq_some_iff_getElem]
 exact ⟨hj,ht,fun k hk=>by simpa using h k (by omega) hk⟩
theorem find_none {L:List Se}{f:Se→Bool}{j:Nat}(hj:¬ j < L.length) (h:∀ k (h:k < L.length),k < j→f L[k]=false):L.findIdx? f=none:=by
 rw [List.findIdx?_eq_none_iff]
 intro x hx
 obtain ⟨k,hk,rfl⟩:=List.getElem_of_mem hx
 exact h k hk (by omega)
set_option maxRecDepth 100000 in
theorem byI_index (w:World) (v:Value) (X:List (Se × Value)) (L:List Se) (hR:TRow w v X) (hcom:X.map Prod.fst=L) (ho:∀ x∈X,KoV w x.2 x.1.v.k) (hn:X.length≤100000) (p:Nat) (id:Int) (hp:w.cell? ⟨p,0,none⟩=some (.int .i64 id)) :
 Calls Tryz.prog 149 #[v,.func (.func 116) #[] #[.pointer (some ⟨p,0,none⟩)]] w fun e w'=>e=.returned (plV (byI id L))∧Kept [] w w':=by
 obtain ⟨ao,c,rfl,hc,hm,_,hat⟩:=hR.shape
 unfold maxLen at hm
 have HA:=hide hat
 have HCom:=hide hcom
 have HKo:=hide ho
 have hl:X.length=L.length:=by rw [← hcom];simp
 have HL:=hide hl
 obtain ⟨n,hn2⟩:∃ n,n=X.length:=⟨_,rfl⟩
 have HN:=hide hn2
 rw [← hn2] at hc hn ⊢
 have HP:=hide hp
 clear hat hcom ho hl hR hn2 hp
 go_enter Tryz.func149,Tryz.ntmps149
 go_wp2_with fail
 go_loopw [8] (fun iv wr=>IxI w L (fun x=>decide (x.i=id)) iv wr) (fun iv _=>n - (intOf iv).toNat)
 case atStart=>exact ⟨0,rfl,Nat.zero_le _,fun k _ hk=>by omega,Kept.refl _ _⟩
 case round =>
  obtain ⟨j,rfl,hj,HF,HK⟩:=hrel
  by_cases hlt:j < n
  ·have hlt':(j:Int) < n:=by omega
   have hjc:j≤c:=by omega
   have hjX:j < X.length:=by rw [← HN.out];exact hlt
   have hjL:j < L.length:=by rw [← HL.out];exact hjX
   have hCk:=fst_get HCom.out hjX hjL
   obtain ⟨g,he,hx⟩:=HA.out j hjX
   have hko:=(HKo.out _ (List.getElem_mem hjX)).kept HK.out
   subst he
   obtain ⟨h0,h1,h2,h3,h4,h5,h6,h7,h8,h9⟩:=hx.kept HK.out (by simp)
   rw [hCk] at h0 h1 h2 h3 h4 h5 h6 h7 h9
   obtain ⟨mo,mm,mc,hm2⟩:=hko.one
   rw [hm2] at h8
   have HT:=hide (fun h=>find_at (f:=fun x=>decide (x.i=id)) hjL HF.out h)
   have cK:=byI_one wr L[j] mo mm mc p id (HK.out.cell HP.out (by simp))
   have HF2:Hid (decide (L[j].i=id)=false→∀ k (h:k < L.length),k < j+1→(fun x:Se=>decide (x.i=id)) L[k]=false):=fun h k hk hk2=>by
    by_cases e:k=j
    ·subst e;exact h
    ·exact HF.out k hk (by omega)
   generalize L[j]=x at *
   unfold seV at cK
   clear hx hko hCk hm2 hjX
   go_wp2_with fail
   refine cK.mono ?_
   rintro _ w5 ⟨rfl,hK5⟩
   replace hK5:=hide (HK.out.trans hK5 (by simp))
   clear cK h0 h1 h2 h3 h4 h5 h6 h7 h8 h9
   cases hd:decide (x.i=id) with
   | true =>
     have HE:Hid (byI id L=some j):=HT.out hd
     go_wp2_with fail
     go_ret
     exact ⟨by rw [HE.out];rfl,hK5.out⟩
   | false =>
     have HE:=hide (HF2.out hd)
     go_wp2_with fail
     go_roundw
     case rel=>exact ⟨j+1,by go_num,hjL,HE,hK5⟩
     case measure=>simp [intOf];omega
  ·have hlt':¬ (j:Int) < n:=by omega
   have HE:Hid (byI id L=none):=find_none (j:=j) (by rw [← HL.out,← HN.out];exact hlt) HF.out
   go_wp2_with fail
   go_ret
   exact ⟨by rw [HE.out];rfl,HK.out⟩
theorem byI_call {w:World}{b sz:Nat}{v:Value}{X:List (Se × Value)}{L:List Se}(h:TbA P w b sz v X L) (hn:L.length≤100000) (id:Int) :
 Calls Tryz.prog 82 #[.pointer (some ⟨b,0,none⟩),.int .i64 id] w fun e w'=>e=.returned (plV (byI id L))∧Kept [] w w':=by
 have hK:=(Kept.refl [] w).alloc (.cells #[.int .i64 id] 3)
 have h1:=h.kept hK
 have cM:=made_callT h1
 have cI:=byI_index _ v X L h1.row h1.ses (fun x hx=>(h1.own x hx).ko) (by rw [h.len];exact hn) w.heap.size id (cell_inC (heap_alloc_new w _) rfl)
 have cF:Calls Tryz.prog 115 #[.pointer (some ⟨b,0,none⟩),.func (.func 116) #[] #[.pointer (some ⟨w.heap.size,0,none⟩)]] (w.alloc (.cells #[.int .i64 id] 3)) fun e w'=>e=.returned (plV (byI id L))∧Kept [] (w.alloc (.cells #[.int .i64 id] 3)) w':=by
  obtain ⟨c0,c1⟩:=h1.cells
  obtain ⟨ao,c,rfl,_⟩:=h1.row.shape
  generalize w.alloc (.cells #[.int .i64 id] 3)=W at *
  clear h h1 hK
  go_enter Tryz.func115,Tryz.ntmps115
  go_wp2_with fail
  refine cM.mono ?_
  rintro _ _ ⟨rfl,rfl⟩
  go_wp2_with fail
  refine cI.mono ?_
  rintro _ w2 ⟨rfl,hK2⟩
  go_wp2_with fail
  go_ret
  exact ⟨rfl,hK2⟩
 have hmf:∀ (fn:Fn) (first cap:Array Value) (w:World),(Instr.makeFunc fn first cap).run Tryz.prog w=.ok (.func fn first cap) w:=fun _ _ _ _=>rfl
 clear cM cI h h1
 go_enter Tryz.func82,Tryz.ntmps82
 go_wp2_with fail
 refine cF.mono ?_
 rintro _ w2 ⟨rfl,hK2⟩
 go_wp2_with fail
 go_ret
 exact ⟨rfl,hK.trans hK2 (by simp)⟩
set_option maxRecDepth 100000 in
theorem byN_index (w:World) (v:Value) (X:List (Se × Value)) (L:List Se) (hR:TRow w v X) (hcom:X.map Prod.fst=L) (ho:∀ x∈X,KoV w x.2 x.1.v.k) (hn:X.length≤100000) (p:Nat) (nm:List UInt8) (hp:w.cell? ⟨p,0,none⟩=some (.string (str nm))) :
 Calls Tryz.prog 149 #[v,.func (.func 117) #[] #[.pointer (some ⟨p,0,none⟩)]] w fun e w'=>e=.returned (plV (byN nm L))∧Kept [] w w':=by
 obtain ⟨ao,c,rfl,hc,hm,_,hat⟩:=hR.shape
 unfold maxLen at hm
 have HA:=hide hat
 have HCom:=hide hcom
 have HKo:=hide ho
 have hl:X.length=L.length:=by rw [← hcom];simp
 have HL:=hide hl
 obtain ⟨n,hn2⟩:∃ n,n=X.length:=⟨_,rfl⟩
 have HN:=hide hn2
 rw [← hn2] at hc hn ⊢
 have HP:=hide hp
 clear hat hcom ho hl hR hn2 hp
 go_enter Tryz.func149,Tryz.ntmps149
 go_wp2_with fail
 go_loopw [8] (fun iv wr=>IxI w L (fun x=>decide (x.n=nm)) iv wr) (fun iv _=>n - (intOf iv).toNat)
 case atStart=>exact ⟨0,rfl,Nat.zero_le _,fun k _ hk=>by omega,Kept.refl _ _⟩
 case round =>
  obtain ⟨j,rfl,hj,HF,HK⟩:=hrel
  by_cases hlt:j < n
  ·have hlt':(j:Int) < n:=by omega
   have hjc:j≤c:=by omega
   have hjX:j < X.length:=by rw [← HN.out];exact hlt
   have hjL:j < L.length:=by rw [← HL.out];exact hjX
   have hCk:=fst_get HCom.out hjX hjL
   obtain ⟨g,he,hx⟩:=HA.out j hjX
   have hko:=(HKo.out _ (List.getElem_mem hjX)).kept HK.out
   subst he
   obtain ⟨h0,h1,h2,h3,h4,h5,h6,h7,h8,h9⟩:=hx.kept HK.out (by simp)
   rw [hCk] at h0 h1 h2 h3 h4 h5 h6 h7 h9
   obtain ⟨mo,mm,mc,hm2⟩:=hko.one
   rw [hm2] at h8
   have HT:=hide (fun h=>find_at (f:=fun x=>decide (x.n=nm)) hjL HF.out h)
   have cK:=byN_one wr L[j] mo mm mc p nm (HK.out.cell HP.out (by simp))
   have HF2:Hid (decide (L[j].n=nm)=false→∀ k (h:k < L.length),k < j+1→(fun x:Se=>decide (x.n=nm)) L[k]=false):=fun h k hk hk2=>by
    by_cases e:k=j
    ·subst e;exact h
    ·exact HF.out k hk (by omega)
   generalize L[j]=x at *
   unfold seV at cK
   clear hx hko hCk hm2 hjX
   go_wp2_with fail
   refine cK.mono ?_
   rintro _ w5 ⟨rfl,hK5⟩
   replace hK5:=hide (HK.out.trans hK5 (by simp))
   clear cK h0 h1 h2 h3 h4 h5 h6 h7 h8 h9
   cases hd:decide (x.n=nm) with
   | true =>
     have HE:Hid (byN nm L=some j):=HT.out hd
     go_wp2_with fail
     go_ret
     exact ⟨by rw [HE.out];rfl,hK5.out⟩
   | false =>
     have HE:=hide (HF2.out hd)
     go_wp2_with fail
     go_roundw
     case rel=>exact ⟨j+1,by go_num,hjL,HE,hK5⟩
     case measure=>simp [intOf];omega
  ·have hlt':¬ (j:Int) < n:=by omega
   have HE:Hid (byN nm L=none):=find_none (j:=j) (by rw [← HL.out,← HN.out];exact hlt) HF.out
   go_wp2_with fail
   go_ret
   exact ⟨by rw [HE.out];rfl,HK.out⟩
theorem byN_call {w:World}{b sz:Nat}{v:Value}{X:List (Se × Value)}{L:List Se}(h:TbA P w b sz v X L) (hn:L.length≤100000) (nm:List UInt8) :
 Calls Tryz.prog 83 #[.pointer (some ⟨b,0,none⟩),.string (str nm)] w fun e w'=>e=.returned (plV (byN nm L))∧Kept [] w w':=by
 have hK:=(Kept.refl [] w).alloc (.cells #[.string (str nm)] 9)
 have h1:=h.kept hK
 have cM:=made_callT h1
 have cI:=byN_index _ v X L h1.row h1.ses (fun x hx=>(h1.own x hx).ko) (by rw [h.len];exact hn) w.heap.size nm (cell_inC (heap_alloc_new w _) rfl)
 have cF:Calls Tryz.prog 115 #[.pointer (some ⟨b,0,none⟩),.func (.func 117) #[] #[.pointer (some ⟨w.heap.size,0,none⟩)]] (w.alloc (.cells #[.string (str nm)] 9)) fun e w'=>e=.returned (plV (byN nm L))∧Kept [] (w.alloc (.cells #[.string (str nm)] 9)) w':=by
  obtain ⟨c0,c1⟩:=h1.cells
  obtain ⟨ao,c,rfl,_⟩:=h1.row.shape
  generalize w.alloc (.cells #[.string (str nm)] 9)=W at *
  clear h h1 hK
  go_enter Tryz.func115,Tryz.ntmps115
  go_wp2_with fail
  refine cM.mono ?_
  rintro _ _ ⟨rfl,rfl⟩
  go_wp2_with fail
  refine cI.mono ?_
  rintro _ w2 ⟨rfl,hK2⟩
  go_wp2_with fail
  go_ret
  exact ⟨rfl,hK2⟩
 have hmf:∀ (fn:Fn) (first cap:Array Value) (w:World),(Instr.makeFunc fn first cap).run Tryz.prog w=.ok (.func fn first cap) w:=fun _ _ _ _=>rfl
 clear cM cI h h1
 go_enter Tryz.func83,Tryz.ntmps83
 go_wp2_with fail
 refine cF.mono ?_
 rintro _ w2 ⟨rfl,hK2⟩
 go_wp2_with fail
 go_ret
 exact ⟨rfl,hK.trans hK2 (by simp)⟩
end Go.Proofs.YtddhmfildfdbdaaGreat
namespace Go.Proofs.YtddhmfildfdbdaaGreat
open Go.RowKit
theorem step_appT {w:World}{ops:Array Oper}{o:Oper}{a:Act}{Kk:Act→World→Prop}{Q:Exit→Act→World→Prop}{E:Prop}(hgd:o.guard=none) (s x:Operand)
 (hop:o.op=.call { callee:=.builtin .append,args:=#[s,x],argTypes:=#[64,64] })
 (ao:Option Addr) (n:Nat) (M:List (Se × Value)) (hs:a.eval s=.slice ao n n) (hn:n=M.length) (hao:ao=none→n=0) (ho:∀ b,ao=some b→∀ (j:Nat) (u:Value),(M.flatMap seC)[j]?=some u→w.cell? (b.add j)=some u)
 (ad:Addr) (m c:Nat) (N:List (Se × Value)) (hx:a.eval x=.slice (some ad) m c) (hm:m=N.length) (hc:∀ (j:Nat) (u:Value),(N.flatMap seC)[j]?=some u→w.cell? (ad.add j)=some u) (h1:∀ x∈N,x.2.oneCell'=true) (hpos:0 < m)
 (hlen:M.length+N.length≤1000000000)
 (h:∀ g cap w',RowS w.heap.size w' (.slice (some ⟨g,0,none⟩) (n+m) cap) (M++N)→Kept [] w w'→Kk (a.put o.dst (.slice (some ⟨g,0,none⟩) (n+m) cap)) w') :
 if Region.wanted o (yielded ops a.tmps)=true then Oper.wp Tryz.prog o a w Kk Q else E:=by
 subst hm
 subst hn
 obtain ⟨i0,hi,hz0,hz1,hz2⟩:=info_parts info_session
 refine step_append_grows hgd s x 64 hop 71 i0 _ 10 112 Tryz.underlying64 hi hz0 hz1 hz2 rfl (by decide) ao M.length M.length (M.flatMap seC) hs (fun e=>⟨hao e,hao e⟩) (seC_length M) ho ad N.length c (N.flatMap seC) hx (seC_length N) hc (one_seC h1) (by omega) (by unfold maxLen;omega) (by omega) ?_
 intro v' w' h2 h3
 have h4:RowS w.heap.size w' v' (M++N):=by
  unfold RowS
  rw [List.length_append,List.flatMap_append]
  exact h2
 obtain ⟨g,cap,he,_,_⟩:=World.ownsRow.form h2 (by omega)
 subst he
 exact h g cap w' h4 ((Kept.refl [] w).grown h3 (by simp))
set_option linter.unusedSimpArgs false in
set_option maxRecDepth 100000 in
theorem behind_own (w:World) (v:Value) (X:List (Se × Value)) (hR:TRow w v X) (x:Se) (u:Value) (hu:∃ ao n c,u=.slice ao n c) (hl:X.length≤100000) :
 Calls Tryz.prog 84 #[v,seV x u] w fun e w'=>∃ v',e=.returned v'∧RowS w.heap.size w' v' (X++[(x,u)])∧Kept [] w w':=by
 obtain ⟨ao,n,c,rfl⟩:=hu
 obtain ⟨W0,hW0⟩:∃ W0,W0=w.alloc (.cells #[.int .i64 x.i,.int .i64 x.q,.string (str x.n),.int .i64 x.v.c,.int .i64 x.v.s,.int .i64 x.v.r,.string (str x.v.p),.int .u64 x.v.d,.slice ao n c,.int .i64 x.v.m] 71):=⟨_,rfl⟩
 have HK0:Hid (Kept [] w W0):=by show Kept _ _ _;rw [hW0];exact (Kept.refl _ _).alloc _
 have hB:W0.heap[w.heap.size]?=some (.cells #[.int .i64 x.i,.int .i64 x.q,.string (str x.n),.int .i64 x.v.c,.int .i64 x.v.s,.int .i64 x.v.r,.string (str x.v.p),.int .u64 x.v.d,.slice ao n c,.int .i64 x.v.m] 71 (0,0)):=by rw [hW0];exact heap_alloc_new w _
 have HKb:Hid (Kept [] W0 (W0.alloc (.cells #[.int .i64 x.i,.int .i64 x.q,.string (str x.n),.int .i64 x.v.c,.int .i64 x.v.s,.int .i64 x.v.r,.string (str x.v.p),.int .u64 x.v.d,.slice ao n c,.int .i64 x.v.m] 71)).drew):=((Kept.refl [] W0).alloc _).drew
 have HNw:Hid (∀ (j:Nat) (u:Value),([(x,.slice ao n c)].flatMap seC)[j]?=some u→(W0.alloc (.cells #[.int .i64 x.i,.int .i64 x.q,.string (str x.n),.int .i64 x.v.c,.int .i64 x.v.s,.int .i64 x.v.r,.string (str x.v.p),.int .u64 x.v.d,.slice ao n c,.int .i64 x.v.m] 71)).drew.cell? ((⟨w.heap.size+1,0,none⟩:Addr).add j)=some u):=by
  have h:=heap_alloc_new W0 (.cells #[.int .i64 x.i,.int .i64 x.q,.string (str x.n),.int .i64 x.v.c,.int .i64 x.v.s,.int .i64 x.v.r,.string (str x.v.p),.int .u64 x.v.d,.slice ao n c,.int .i64 x.v.m] 71)
  rw [show W0.heap.size=w.heap.size+1 by rw [hW0,World.size_alloc]] at h
  exact se_news (x:=(x,.slice ao n c)) rfl ((Kept.refl [] _).drew.at h (by simp))
 have HR:=hide ((hR.kept HK0.out).kept HKb.out)
 have b0:=cell_inC (k:=0) hB rfl
 have b1:=cell_inC (k:=1) hB rfl
 have b2:=cell_inC (k:=2) hB rfl
 have b3:=cell_inC (k:=3) hB rfl
 have b4:=cell_inC (k:=4) hB rfl
 have b5:=cell_inC (k:=5) hB rfl
 have b6:=cell_inC (k:=6) hB rfl
 have b7:=cell_inC (k:=7) hB rfl
 have b8:=cell_inC (k:=8) hB rfl
 have b9:=cell_inC (k:=9) hB rfl
 unfold seV
 rcases hR with ⟨rfl,rfl⟩ | ⟨g,c',cur,rfl,hh,h1,h2,h3⟩
 ·clear hB
  subst hW0
  go_enter Tryz.func84,Tryz.ntmps84
  go_wp2_with fail
  refine wp_region_held_drew (S:=fun w'=>w'.cell? ⟨w.heap.size,0,none⟩=some (.int .i64 x.i)∧w'.cell? ⟨w.heap.size,1,none⟩=some (.int .i64 x.q)∧w'.cell? ⟨w.heap.size,2,none⟩=some (.string (str x.n))∧w'.cell? ⟨w.heap.size,3,none⟩=some (.int .i64 x.v.c)∧w'.cell? ⟨w.heap.size,4,none⟩=some (.int .i64 x.v.s)∧w'.cell? ⟨w.heap.size,5,none⟩=some (.int .i64 x.v.r)∧w'.cell? ⟨w.heap.size,6,none⟩=some (.string (str x.v.p))∧w'.cell? ⟨w.heap.size,7,none⟩=some (.int .u64 x.v.d)∧w'.cell? ⟨w.heap.size,8,none⟩=some (.slice ao n c)∧w'.cell? ⟨w.heap.size,9,none⟩=some (.int .i64 x.v.m)) (by kernel_rfl) ⟨b0,b1,b2,b3,b4,b5,b6,b7,b8,b9⟩ (fun hHeld=>?_)
  refine tks [0,1,2,3,4,5,6] (by rfl) (by kernel_rfl) (fun _ _ _ _ _ h=>h) hHeld ?_
  iterate 7
   refine yk ?_ rfl (Or.inl ⟨by rfl,?_⟩) ?_
   rotate_left
   ·intro w9 hSw;(try dsimp only at hSw);go_simp;(try with_reducible rfl)
   try simp only [sT,Act.put]
  refine yk0 ?_
  simp only [setK,sT]
  refine rd1 7 (by kernel_rfl) rfl (fun K0 hK0=>?_)
  go_simp
  refine hK0.out _ _ ⟨HKb.out.cell b0 (by simp),HKb.out.cell b1 (by simp),HKb.out.cell b2 (by simp),HKb.out.cell b3 (by simp),HKb.out.cell b4 (by simp),HKb.out.cell b5 (by simp),HKb.out.cell b6 (by simp),HKb.out.cell b7 (by simp),HKb.out.cell b8 (by simp),HKb.out.cell b9 (by simp)⟩ (fun hHeld=>?_)
  clear hK0 K0
  try simp only [sT,Act.put]
  refine rd1 8 (by kernel_rfl) rfl (fun K0 hK0=>?_)
  refine step_appT (by rfl) _ _ (by rfl) none 0 [] (by simp [Act.eval]) rfl (fun _=>rfl) (by intro b e;cases e) ⟨w.heap.size+1,0,none⟩ 1 1 [(x,.slice ao n c)] (by simp [Act.eval]) rfl HNw.out (by intro y hy;simp at hy;subst hy;rfl) (by omega) (by simp) ?_
  intro g5 c5 w5 hR5 hK5
  have hK6:=HKb.out.trans hK5 (by simp)
  refine hK0.out _ _ ⟨hK6.cell b0 (by simp),hK6.cell b1 (by simp),hK6.cell b2 (by simp),hK6.cell b3 (by simp),hK6.cell b4 (by simp),hK6.cell b5 (by simp),hK6.cell b6 (by simp),hK6.cell b7 (by simp),hK6.cell b8 (by simp),hK6.cell b9 (by simp)⟩ (fun hHeld=>?_)
  clear hK0 K0
  try simp only [sT,Act.put]
  refine tks [9] (by rfl) (by kernel_rfl) (fun _ _ _ _ _ h=>h) hHeld ?_
  iterate 1
   refine yk ?_ rfl (Or.inl ⟨by rfl,?_⟩) ?_
   rotate_left
   ·intro w9 hSw;(try dsimp only at hSw);go_simp;(try with_reducible rfl)
   try simp only [sT,Act.put]
  refine yk0 ?_
  simp only [setK,sT]
  refine wpAnyH_done (by kernel_rfl) ?_ _
  all_goals go_wp2_with fail
  all_goals go_ret
  all_goals exact ⟨_,rfl,hR5.mono (Nat.le_trans HK0.out.size HKb.out.size),HK0.out.trans hK6 (by simp)⟩
 ·unfold maxLen at h2
  have HC:Hid (∀ b,(some ⟨g,0,none⟩:Option Addr)=some b→∀ (j:Nat) (u:Value),(X.flatMap seC)[j]?=some u→(W0.alloc (.cells #[.int .i64 x.i,.int .i64 x.q,.string (str x.n),.int .i64 x.v.c,.int .i64 x.v.s,.int .i64 x.v.r,.string (str x.v.p),.int .u64 x.v.d,.slice ao n c,.int .i64 x.v.m] 71)).drew.cell? (b.add j)=some u):=fun b e=>by
   cases e
   have h:=HR.out.run0 X.length
   rw [List.take_length] at h
   exact h
  obtain ⟨m,hmX⟩:∃ m,m=X.length:=⟨_,rfl⟩
  have HM:=hide hmX
  rw [← hmX] at h1 hl ⊢
  clear hh h3 hmX hB
  subst hW0
  go_enter Tryz.func84,Tryz.ntmps84
  go_wp2_with fail
  refine wp_region_held_drew (S:=fun w'=>w'.cell? ⟨w.heap.size,0,none⟩=some (.int .i64 x.i)∧w'.cell? ⟨w.heap.size,1,none⟩=some (.int .i64 x.q)∧w'.cell? ⟨w.heap.size,2,none⟩=some (.string (str x.n))∧w'.cell? ⟨w.heap.size,3,none⟩=some (.int .i64 x.v.c)∧w'.cell? ⟨w.heap.size,4,none⟩=some (.int .i64 x.v.s)∧w'.cell? ⟨w.heap.size,5,none⟩=some (.int .i64 x.v.r)∧w'.cell? ⟨w.heap.size,6,none⟩=some (.string (str x.v.p))∧w'.cell? ⟨w.heap.size,7,none⟩=some (.int .u64 x.v.d)∧w'.cell? ⟨w.heap.size,8,none⟩=some (.slice ao n c)∧w'.cell? ⟨w.heap.size,9,none⟩=some (.int .i64 x.v.m)) (by kernel_rfl) ⟨b0,b1,b2,b3,b4,b5,b6,b7,b8,b9⟩ (fun hHeld=>?_)
  refine tks [0,1,2,3,4,5,6] (by rfl) (by kernel_rfl) (fun _ _ _ _ _ h=>h) hHeld ?_
  iterate 7
   refine yk ?_ rfl (Or.inl ⟨by rfl,?_⟩) ?_
   rotate_left
   ·intro w9 hSw;(try dsimp only at hSw);go_simp;(try with_reducible rfl)
   try simp only [sT,Act.put]
  refine yk0 ?_
  simp only [setK,sT]
  refine rd1 7 (by kernel_rfl) rfl (fun K0 hK0=>?_)
  go_simp
  refine hK0.out _ _ ⟨HKb.out.cell b0 (by simp),HKb.out.cell b1 (by simp),HKb.out.cell b2 (by simp),HKb.out.cell b3 (by simp),HKb.out.cell b4 (by simp),HKb.out.cell b5 (by simp),HKb.out.cell b6 (by simp),HKb.out.cell b7 (by simp),HKb.out.cell b8 (by simp),HKb.out.cell b9 (by simp)⟩ (fun hHeld=>?_)
  clear hK0 K0
  try simp only [sT,Act.put]
  refine rd1 8 (by kernel_rfl) rfl (fun K0 hK0=>?_)
  refine step_appT (by rfl) _ _ (by rfl) (some ⟨g,0,none⟩) m X (by simp [Act.eval]) HM.out (by simp) HC.out ⟨w.heap.size+1,0,none⟩ 1 1 [(x,.slice ao n c)] (by simp [Act.eval]) rfl HNw.out (by intro y hy;simp at hy;subst hy;rfl) (by omega) (by rw [← HM.out];simp;omega) ?_
  intro g5 c5 w5 hR5 hK5
  have hK6:=HKb.out.trans hK5 (by simp)
  refine hK0.out _ _ ⟨hK6.cell b0 (by simp),hK6.cell b1 (by simp),hK6.cell b2 (by simp),hK6.cell b3 (by simp),hK6.cell b4 (by simp),hK6.cell b5 (by simp),hK6.cell b6 (by simp),hK6.cell b7 (by simp),hK6.cell b8 (by simp),hK6.cell b9 (by simp)⟩ (fun hHeld=>?_)
  clear hK0 K0
  try simp only [sT,Act.put]
  refine tks [9] (by rfl) (by kernel_rfl) (fun _ _ _ _ _ h=>h) hHeld ?_
  iterate 1
   refine yk ?_ rfl (Or.inl ⟨by rfl,?_⟩) ?_
   rotate_left
   ·intro w9 hSw;(try dsimp only at hSw);go_simp;(try with_reducible rfl)
   try simp only [sT,Act.put]
  refine yk0 ?_
  simp only [setK,sT]
  refine wpAnyH_done (by kernel_rfl) ?_ _
  all_goals go_wp2_with fail
  all_goals go_ret
  all_goals exact ⟨_,rfl,hR5.mono (Nat.le_trans HK0.out.size HKb.out.size),HK0.out.trans hK6 (by simp)⟩
variable {P : Nat → Prop}
theorem typed1 {w:World}{b:Nat}{t:TypeId}{x:Array Value}(hb:w.heap[b]?=some (.cells x t (0,0))):Typed w [b] [t]:=fun k hk cur t' mk hh=>by
 simp at hk;subst hk
 rw [hb] at hh;cases hh;simp
theorem TbA.store {w w5:World}{b sz:Nat}{v v5:Value}{X X5:List (Se × Value)}{L L5:List Se}(h:TbA P w b sz v X L) (hK:Kept [] w w5) (hR:TRow w5 v5 X5) (ho:∀ x∈X5,KoP P w5 x.2 x.1.v.k) (he:X5.map Prod.fst=L5):TbA P (w5.setCell ⟨b,1,none⟩ v5) b sz v5 X5 L5:=by
 have h5:=hK.at h.at_ (by simp)
 have hK2:Kept [b] w5 (w5.setCell ⟨b,1,none⟩ v5):=(Kept.refl _ _).setCell (by simp) _
 exact ⟨heap_setCell_same w5 b 1 _ _ _ h5,h.pos,hR.typed hK2 (typed1 h5) (by decide),fun x hx=>(ho x hx).keep hK2 (typed1 h5) (by decide) (by decide),he⟩
end Go.Proofs.YtddhmfildfdbdaaGreat
namespace Go.Proofs.YtddhmfildfdbdaaGreat
open Go.RowKit
variable {P : Nat → Prop}
end Go.Proofs.YtddhmfildfdbdaaGreat
