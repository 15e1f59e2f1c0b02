/-
  The document's disk in memory; New, Find, step, name, result.
-/
import Derived.Test.YteiagkjhmhllnaaRowX
import Derived.Test.YteiagkjhmhllnaaFdPure
import Derived.Test.YteiagkjhmhllnaaBys
import Derived.Test.YteiagkjhmhllnaaRegG
namespace Go.Proofs.Yteiagkjhmhllnaa
open Go.RowKit
structure Fm where
 n:List UInt8
 b:List Int
 l:Nat
 ao:Option Addr
 c:Nat
def Fm.fl (x:Fm):Fl:=⟨x.n,x.b,x.l⟩
def Fm.v (x:Fm):Value:=.slice x.ao x.b.length x.c
def foC (x:Fm):List Value:=[.string (str x.n),x.v,.int .i64 x.l]
def rkO:Rk Fm where
 T:=73
 S:=68
 k:=3
 b:=48
 z:=.agg #[.string ⟨#[]⟩,.slice none 0 0,.int .i64 0]
 c:=foC
 len:=fun _=>rfl
 one:=fun x v hv=>by simp [foC,Fm.v] at hv;rcases hv with rfl | rfl | rfl <;> rfl
 pos:=by decide
 und:=Try.underlying68
 inf:=by kernel_rfl
 zsz:=rfl
 bsz:=by decide
def blD (p:Nat) (v:Value) (X:List Fm):List Nat:=p :: (v.ownBlock.toList++X.flatMap fun x=>x.v.ownBlock.toList)
structure AtD (w:World) (O:List Nat) (p:Nat) (d:Dk) (v:Value) (X:List Fm):Prop where
 h:Bx w p 70 [v,.int .i64 d.s,.int .i64 d.f,.bool d.d]
 r:rkO.row w v X
 o:∀ x∈X,Own w x.v x.b
 L:X.map Fm.fl=d.L
 b:O=blD p v X
 n:O.Nodup
def AtF (w:World) (O:List Nat) (p:Nat) (d:Dk):Prop:=∃ v X,AtD w O p d v X
def FdP (p:Nat) (w:World) (O:List Nat) (d:Dk) (w':World):Prop:=∃ O',AtF w' O' p d∧Kept O w w'∧∀ k∈O',k∈O∨w.heap.size≤k
theorem AtD.kept {S:List Nat}{a w:World}{O:List Nat}{p:Nat}{d:Dk}{v:Value}{X:List Fm}(h:AtD a O p d v X) (k:Kept S a w) (hS:∀ i∈O,i ∉ S):AtD w O p d v X:=by
 have hb:=h.b
 subst hb
 exact ⟨h.h.kept k (hS p (by simp [blD])),Rk.kept h.r k (fun i hi=>hS i (by simp [blD,hi])),fun x hx=>k.ownsRow (h.o x hx) (fun i hi=>hS i (by
  unfold blD
  refine List.mem_cons_of_mem _ (List.mem_append_right _ (List.mem_flatMap.2 ⟨x,hx,by simp [hi]⟩)))),h.L,rfl,h.n⟩
theorem AtF.kept {S:List Nat}{a w:World}{O:List Nat}{p:Nat}{d:Dk}(h:AtF a O p d) (k:Kept S a w) (hS:∀ i∈O,i ∉ S):AtF w O p d:=by
 obtain ⟨v,X,h⟩:=h
 exact ⟨v,X,h.kept k hS⟩
theorem AtD.lt {w:World}{O:List Nat}{p:Nat}{d:Dk}{v:Value}{X:List Fm}(h:AtD w O p d v X):∀ k∈O,k < w.heap.size:=by
 intro k hk
 rw [h.b] at hk
 rcases List.mem_cons.1 hk with rfl | hk
 ·exact h.h.lt
 ·rcases List.mem_append.1 hk with hk | hk
  ·exact Rk.lt h.r k (by simpa using hk)
  ·obtain ⟨x,hx,hk⟩:=List.mem_flatMap.1 hk
   exact (World.ownsRow.lt (h.o x hx) k (by simpa using hk)).2
theorem AtF.lt {w:World}{O:List Nat}{p:Nat}{d:Dk}(h:AtF w O p d):∀ k∈O,k < w.heap.size:=by
 obtain ⟨v,X,h⟩:=h
 exact h.lt
theorem AtD.len {w:World}{O:List Nat}{p:Nat}{d:Dk}{v:Value}{X:List Fm}(h:AtD w O p d v X):X.length=d.L.length:=by rw [← h.L,List.length_map]
theorem AtD.get {w:World}{O:List Nat}{p:Nat}{d:Dk}{v:Value}{X:List Fm}(h:AtD w O p d v X) {i:Nat}(hi:i < X.length) (hi':i < d.L.length):d.L[i]=X[i].fl:=by
 rw [List.getElem_of_eq h.L.symm hi',List.getElem_map]
theorem AtD.pO {w:World}{O:List Nat}{p:Nat}{d:Dk}{v:Value}{X:List Fm}(h:AtD w O p d v X):p∈O:=by rw [h.b];simp [blD]
theorem AtD.vO {w:World}{O:List Nat}{p:Nat}{d:Dk}{v:Value}{X:List Fm}(h:AtD w O p d v X) {k:Nat}(hk:v.ownBlock=some k):k∈O∧k≠p:=by
 have hn:=h.n
 rw [h.b] at hn ⊢
 have hm:k∈v.ownBlock.toList:=by rw [hk];simp
 refine ⟨List.mem_cons_of_mem _ (List.mem_append_left _ hm),fun e=>?_⟩
 subst e
 exact (List.nodup_cons.1 hn).1 (List.mem_append_left _ hm)
theorem strB_dec (a b:List UInt8):((str a).toList==(str b).toList)=decide (a=b):=by
 rw [Go.ByteArray.toList_eq,Go.ByteArray.toList_eq,str_data,str_data]
 by_cases h:a=b
 ·simp [h]
 ·simp [h]
theorem strB_lt (a b:List UInt8):Op.bytesLess (str a).toList (str b).toList=ltN a b:=by
 rw [Go.ByteArray.toList_eq,Go.ByteArray.toList_eq,str_data,str_data];rfl
def plF:Option Nat→Int
 | none=>-1
 | some i=>i
theorem dnewF_at (w:World):AtF (w.alloc (.cells #[.slice none 0 0,.int .i64 0,.int .i64 (-1),.bool false] 70)) [w.heap.size] w.heap.size ⟨[],0,-1,false⟩ :=
 ⟨.slice none 0 0,[],⟨Bx.new w _ _,Rk.nil _,fun x hx=>(by cases hx),rfl,rfl,by simp⟩⟩
theorem dnewF_call (w:World):Calls Try.prog 17 #[] w fun e w'=>e=.returned (.pointer (some ⟨w.heap.size,0,none⟩))∧w'=w.alloc (.cells #[.slice none 0 0,.int .i64 0,.int .i64 (-1),.bool false] 70):=by
 go_enter Try.func17,Try.ntmps17
 go_wp2_with fail
 go_ret
 exact ⟨rfl,rfl⟩
theorem findF_go (n:List UInt8) (L:List Fl) (i:Nat) (hi:i < L.length) (h1:∀ k (hk:k < L.length),k < i→L[k].n≠n) (h2:L[i].n=n):findF n L=some i:=by
 unfold findF
 rw [List.findIdx?_eq_some_iff_getElem]
 exact ⟨hi,by simpa using h2,fun j hj=>by simpa using h1 j (by omega) hj⟩
theorem findF_no (n:List UInt8) (L:List Fl) (h1:∀ k (hk:k < L.length),L[k].n≠n):findF n L=none:=by
 unfold findF
 rw [List.findIdx?_eq_none_iff]
 intro x hx
 obtain ⟨k,hk,rfl⟩:=List.getElem_of_mem hx
 simpa using h1 k hk
set_option maxHeartbeats 4000000 in
set_option maxRecDepth 100000 in
theorem dfindF_call {w:World}{O:List Nat}{p:Nat}{d:Dk}{v:Value}{X:List Fm}(h:AtD w O p d v X) (hl:d.L.length≤1000000000) (n:List UInt8) :
 Calls Try.prog 49 #[.pointer (some ⟨p,0,none⟩),.string (str n)] w fun e w'=>e=.returned (.int .i64 (plF (findF n d.L)))∧w'=w:=by
 obtain ⟨ao,c,hv,hc,hm,_,hat⟩:=Rk.shape h.r
 subst hv
 unfold maxLen at hm
 have HA:=hide hat
 have HG:=hide (fun i (hi:i < X.length) (hi':i < d.L.length)=>h.get hi hi')
 have hXL:=h.len
 have HXL:=hide hXL
 have c0:=h.h.cell 0 rfl
 have hn:X.length≤1000000000:=by omega
 clear h hat hXL
 go_enter Try.func49,Try.ntmps49
 go_wp2_with fail
 go_loopw [5] (fun iv wr=>∃ i:Nat,iv=.int .i64 (i:Int)∧i≤X.length∧Hid (∀ k (hk:k < d.L.length),k < i→d.L[k].n≠n)∧wr=w) (fun iv _=>X.length - (intOf iv).toNat)
 case atStart=>exact ⟨0,rfl,Nat.zero_le _,fun k _ hk=>by omega,rfl⟩
 case round =>
  obtain ⟨j,rfl,hj,HF,hw⟩:=hrel
  obtain rfl:=hw.symm
  by_cases hlt:j < X.length
  ·have hlt':(j:Int) < X.length:=by omega
   have hjL:j < d.L.length:=by rw [← HXL.out];exact hlt
   obtain ⟨g,he,hx⟩:=HA.out j hlt
   subst he
   have h0:w.cell? ⟨g,j*3,none⟩=some (.string (str X[j].n)):=hx 0 _ rfl
   have hCk:d.L[j].n=X[j].n:=by rw [HG.out j hlt hjL];rfl
   rw [← hCk] at h0
   have HYes:=hide (fun h=>findF_go n d.L j hjL HF.out h)
   have HNo:Hid (d.L[j].n≠n→∀ k (hk:k < d.L.length),k < j+1→d.L[k].n≠n):=fun h k hk hk2=>by
    by_cases e:k=j
    ·subst e;exact h
    ·exact HF.out k hk (by omega)
   generalize d.L[j].n=x at *
   clear hx hCk
   by_cases hd:x=n
   ·have hq:((str x).toList==(str n).toList)=true:=by rw [strB_dec];simp [hd]
    have HE:Hid (findF n d.L=some j):=HYes.out hd
    go_wp2_with fail
    go_ret
    exact ⟨by rw [HE.out];rfl,rfl⟩
   ·have hq:((str x).toList==(str n).toList)=false:=by rw [strB_dec];simp [hd]
    have HE:=hide (HNo.out hd)
    go_wp2_with fail
    go_roundw
    case rel=>exact ⟨j+1,by go_num,by omega,HE,trivial⟩
    case measure=>simp [intOf];omega
  ·have hlt':¬ (j:Int) < X.length:=by omega
   have HE:Hid (findF n d.L=none):=findF_no n d.L (fun k hk=>HF.out k hk (by have:=HXL.out;omega))
   go_wp2_with fail
   go_ret
   exact ⟨by rw [HE.out];rfl,rfl⟩
theorem dnameF_call (w:World) (n:List UInt8):Calls Try.prog 47 #[.string (str n)] w fun e w'=>e=.returned (.bool (nameF n))∧w'=w:=by
 have hs:=str_size n
 by_cases h1:0 < n.length
 ·by_cases h2:n.length≤24
  ·have e:nameF n=true:=by unfold nameF;simp [h1,h2]
   have hz:decide ((n.length:Int)≤24)=true:=decide_eq_true (by omega)
   go_enter Try.func47,Try.ntmps47
   go_wp2_with fail
   go_ret
   exact ⟨by rw [e];rfl,rfl⟩
  ·have e:nameF n=false:=by unfold nameF;simp [h2]
   have hz:decide ((n.length:Int)≤24)=false:=decide_eq_false (by omega)
   go_enter Try.func47,Try.ntmps47
   go_wp2_with fail
   go_ret
   exact ⟨by rw [e];rfl,rfl⟩
 ·have e:nameF n=false:=by unfold nameF;simp [h1]
  have e0:n=[]:=by have:n.length=0:=by omega
                   simpa using this
  subst e0
  go_enter Try.func47,Try.ntmps47
  go_wp2_with fail
  go_ret
  exact ⟨by rw [e];rfl,rfl⟩
theorem dresF_call (w:World) (b:Bool):Calls Try.prog 51 #[.bool b] w fun e w'=>e=.returned (.int .i64 (resF b))∧w'=w:=by
 cases b
 ·go_enter Try.func51,Try.ntmps51
  go_wp2_with fail
  go_ret
  exact ⟨rfl,rfl⟩
 ·go_enter Try.func51,Try.ntmps51
  go_wp2_with fail
  go_ret
  exact ⟨rfl,rfl⟩
end Go.Proofs.Yteiagkjhmhllnaa
