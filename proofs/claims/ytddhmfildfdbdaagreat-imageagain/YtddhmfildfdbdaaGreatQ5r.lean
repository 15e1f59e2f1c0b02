/-
  Texts of this claim that are laid as one: PaCut, PaParts, PaComp, PaWith, PaName, PaRes, PaNorm, PaNorm2.
-/
import Derived.Test.YtddhmfildfdbdaaGreatQ1r
import Derived.Test.YtddhmfildfdbdaaGreatShelf
import Derived.Lib.CutLaws
import Derived.Laws.Strings3
set_option maxHeartbeats 4000000
/-
 strings.Cut at "/": the part ahead of the first stroke, and what is behind it. (The library's own contracts for it, laid.)
-/
namespace Go.Proofs.YtddhmfildfdbdaaGreat
open Go.RowKit
theorem indexByte_miss (l:List UInt8) (h:(47:UInt8) ∉ l):Lib.indexByte l 47=-1:=by
 induction l with
 | nil=>rfl
 | cons c t ih =>
   simp only [List.mem_cons,not_or] at h
   unfold Lib.indexByte
   rw [ih h.2]
   have:¬ c=47:=fun e=>h.1 e.symm
   simp [this]
theorem indexByte_hit (a b:List UInt8) (h:(47:UInt8) ∉ a):Lib.indexByte (a++47 :: b) 47=a.length:=by
 induction a with
 | nil=>rfl
 | cons c t ih =>
   simp only [List.mem_cons,not_or] at h
   rw [List.cons_append]
   unfold Lib.indexByte
   rw [ih h.2]
   have:¬ c=47:=fun e=>h.1 e.symm
   simp [this]
set_option maxRecDepth 100000 in
theorem lcut_miss (l:List UInt8) (w:World) (h:(47:UInt8) ∉ l) :
 Calls Tryz.prog 202 #[.string (str l),.string ⟨#[47]⟩] w fun e w'=>e=.returned (.tuple #[.string (str l),.string ByteArray.empty,.bool false])∧w'=w:=by
 have c46:=Tryz.stringslite_Index_one (str l) 47
 rw [str_data,indexByte_miss l h] at c46
 go_enter Tryz.func202,Tryz.ntmps202
 go_wp2_with (go_at_call 215;refine (c46 _).mono ?_;rintro e w' ⟨rfl,rfl⟩)
 go_ret3
 exact ⟨rfl,rfl⟩
theorem ext_a (a b:List UInt8):(str (a++47 :: b)).extract 0 a.length=str a:=by
 rw [Lib.extract_eq,str_data];simp [str]
theorem ext_b (a b:List UInt8):(str (a++47 :: b)).extract (a.length+1) (str (a++47 :: b)).size=str b:=by
 rw [Lib.extract_eq,str_data,str_size];simp [str]
 exact List.take_of_length_le (by omega)
set_option maxRecDepth 100000 in
theorem lcut_hit (a b:List UInt8) (w:World) (h:(47:UInt8) ∉ a) (hl:(a++47 :: b).length≤140737488355328) :
 Calls Tryz.prog 202 #[.string (str (a++47 :: b)),.string ⟨#[47]⟩] w fun e w'=>e=.returned (.tuple #[.string (str a),.string (str b),.bool true])∧w'=w.drew:=by
 have c46:=Tryz.stringslite_Index_one (str (a++47 :: b)) 47
 rw [str_data,indexByte_hit a b h] at c46
 have hsz:=str_size (a++47 :: b)
 have c1:(0:Int)≤↑a.length:=by omega
 have c2:(↑a.length:Int)≤↑(str (a++47 :: b)).size:=by rw [hsz];simp;omega
 have c3:(0:Int)≤↑a.length+1:=by omega
 have c4:(↑a.length+1:Int)≤↑(str (a++47 :: b)).size:=by rw [hsz];simp;omega
 rw [← ext_a a b,← ext_b a b]
 have hll:(a.length:Int)+1≤140737488355328:=by simp at hl;omega
 have hwr:IntKind.i64.wrap (↑a.length+1)=↑a.length+1:=IntWalk.i64_in _ (by omega)
 clear hsz
 go_enter Tryz.func202,Tryz.ntmps202
 go_wp2_with (go_at_call 215;refine (c46 _).mono ?_;rintro e w' ⟨rfl,rfl⟩)
 go_region
 go_wp2
 go_ret3
 exact ⟨rfl,rfl⟩
set_option maxRecDepth 100000 in
theorem cut_miss (l:List UInt8) (w:World) (h:(47:UInt8) ∉ l) :
 Calls Tryz.prog 192 #[.string (str l),.string ⟨#[47]⟩] w fun e w'=>e=.returned (.tuple #[.string (str l),.string ByteArray.empty,.bool false])∧w'=w:=by
 go_enter Tryz.func192,Tryz.ntmps192
 go_wp2_with (go_at_call 202;refine (lcut_miss l _ h).mono ?_;rintro e w' ⟨rfl,rfl⟩)
 go_ret3
 exact ⟨rfl,rfl⟩
set_option maxRecDepth 100000 in
theorem cut_hit (a b:List UInt8) (w:World) (h:(47:UInt8) ∉ a) (hl:(a++47 :: b).length≤140737488355328) :
 Calls Tryz.prog 192 #[.string (str (a++47 :: b)),.string ⟨#[47]⟩] w fun e w'=>e=.returned (.tuple #[.string (str a),.string (str b),.bool true])∧w'=w.drew:=by
 go_enter Tryz.func192,Tryz.ntmps192
 go_wp2_with (go_at_call 202;refine (lcut_hit a b _ h hl).mono ?_;rintro e w' ⟨rfl,rfl⟩)
 go_ret3
 exact ⟨rfl,rfl⟩
def PtAt (w:World) (m a:Nat) (ps:List (List UInt8)):Prop :=
 m≠a∧∃ (b:Bool) (l:List UInt8),w.heap[m]?=some (.cells #[.bool b] 4 (0,0))∧w.heap[a]?=some (.cells #[.string (str l)] 9 (0,0))∧l.length≤140737488355328 ∧
  ((ps=[]∧b=false)∨(b=true∧partsB l=ps))
theorem PtAt.kept {S:List Nat}{w w':World}{m a:Nat}{ps:List (List UInt8)}(h:PtAt w m a ps) (k:Kept S w w') (hm:m ∉ S) (ha:a ∉ S):PtAt w' m a ps:=by
 obtain ⟨h0,b,l,h1,h2,h3⟩:=h
 exact ⟨h0,b,l,k.at h1 hm,k.at h2 ha,h3⟩
set_option maxRecDepth 100000 in
theorem next_none (w:World) (m a:Nat) (h:PtAt w m a []) :
 Calls Tryz.prog 191 #[.pointer (some ⟨m,0,none⟩),.pointer (some ⟨a,0,none⟩)] w fun e w'=>e=.returned (.tuple #[.string ByteArray.empty,.bool false])∧w'=w:=by
 obtain ⟨h0,b,l,h1,h2,h3,h4⟩:=h
 rcases h4 with ⟨_,rfl⟩ | ⟨_,h5⟩
 ·have c1:=cell_of_one h1
  go_enter Tryz.func191,Tryz.ntmps191
  go_wp2
  go_ret2
  exact ⟨rfl,rfl⟩
 ·exact absurd h5 (partsB_ne l)
theorem next_turn {w:World}{m a:Nat}{b0:Bool}{l0:List UInt8}(h0:m≠a) (h1:w.heap[m]?=some (.cells #[.bool b0] 4 (0,0))) (h2:w.heap[a]?=some (.cells #[.string (str l0)] 9 (0,0))) (b:Bool) (l:List UInt8) (hl:l.length≤140737488355328) {ps:List (List UInt8)}(h:(ps=[]∧b=false)∨(b=true∧partsB l=ps)) :
 PtAt ((w.setCell ⟨a,0,none⟩ (.string (str l))).setCell ⟨m,0,none⟩ (.bool b)) m a ps:=by
 refine ⟨h0,b,l,?_,?_,hl,h⟩
 ·refine one_setCell (v:=.bool b0) ?_
  rw [Below.heap_setCell _ _ _ _ h0];exact h1
 ·rw [Below.heap_setCell _ _ _ _ (Ne.symm h0)];exact one_setCell h2
theorem next_kept (w:World) {m a:Nat}(x y:Value):Kept [m,a] w ((w.setCell ⟨a,0,none⟩ x).setCell ⟨m,0,none⟩ y) :=
 ((Kept.refl _ w).setCell (by simp) _).setCell (by simp) _
set_option maxRecDepth 100000 in
theorem next_some (w:World) (m a:Nat) (p:List UInt8) (ps:List (List UInt8)) (h:PtAt w m a (p :: ps)) :
 Calls Tryz.prog 191 #[.pointer (some ⟨m,0,none⟩),.pointer (some ⟨a,0,none⟩)] w fun e w'=>e=.returned (.tuple #[.string (str p),.bool true])∧PtAt w' m a ps∧Kept [m,a] w w':=by
 obtain ⟨h0,b,l,h1,h2,h3,h4⟩:=h
 rcases h4 with ⟨h5,_⟩ | ⟨rfl,h5⟩
 ·cases h5
 ·have c1:=cell_of_one h1
  have c2:=cell_of_one h2
  have f1:=free_of_one h1
  have f2:=free_of_one h2
  rcases split47 l with hm | ⟨x,y,rfl,hm⟩
  ·go_enter Tryz.func191,Tryz.ntmps191
   go_wp2_with (go_at_call 192;refine (cut_miss l _ hm).mono ?_;rintro e w' ⟨rfl,rfl⟩)
   go_ret2
   rw [partsB_miss l hm] at h5
   cases h5
   exact ⟨rfl,next_turn h0 h1 h2 _ [] (by simp) (.inl ⟨rfl,rfl⟩),next_kept _ _ _⟩
  ·go_enter Tryz.func191,Tryz.ntmps191
   go_wp2_with (go_at_call 192;refine (cut_hit x y _ hm h3).mono ?_;rintro e w' ⟨rfl,rfl⟩)
   go_ret2
   rw [partsB_hit x y hm] at h5
   cases h5
   exact ⟨rfl,next_turn h0 h1 h2 _ y (by simp at h3;omega) (.inr ⟨rfl,rfl⟩),(next_kept _ _ _).drew⟩
set_option maxRecDepth 100000 in
theorem parts_call (l:List UInt8) (w:World) (hl:l.length≤140737488355328) :
 Calls Tryz.prog 182 #[.string (str l)] w fun e w'=>∃ m a,e=.returned (.func (.func 191) #[] #[.pointer (some ⟨m,0,none⟩),.pointer (some ⟨a,0,none⟩)])∧PtAt w' m a (partsB l)∧Kept [] w w'∧w.heap.size≤m∧w.heap.size≤a:=by
 go_enter Tryz.func182,Tryz.ntmps182
 go_wp2
 go_ret
 refine ⟨w.heap.size+1,w.heap.size,rfl,⟨by omega,true,l,?_,?_,hl,.inr ⟨rfl,rfl⟩⟩,((Kept.refl [] w).alloc _).alloc _,by omega,Nat.le_refl _⟩
 ·simpa using heap_alloc_new (w.alloc (Obj.cells #[Value.string (str l)] 9)) (Obj.cells #[Value.bool true] 4)
 ·exact (Below.heap_alloc _ _ _ (by simp)).trans (heap_alloc_new w _)
def leftOf (m a:Nat) (w:World):Nat :=
 match w.cell? ⟨m,0,none⟩,w.cell? ⟨a,0,none⟩ with
 | some (.bool true),some (.string s)=>(partsB s.data.toList).length
 | _,_=>0
theorem PtAt.left {w:World}{m a:Nat}{ps:List (List UInt8)}(h:PtAt w m a ps):leftOf m a w=ps.length:=by
 obtain ⟨h0,b,l,h1,h2,h3,h4⟩:=h
 unfold leftOf
 rw [cell_of_one h1,cell_of_one h2]
 rcases h4 with ⟨rfl,rfl⟩ | ⟨rfl,rfl⟩
 ·rfl
 ·simp [str_data]
theorem PtAt.lt {w:World}{m a:Nat}{ps:List (List UInt8)}(h:PtAt w m a ps):m < w.heap.size∧a < w.heap.size:=by
 obtain ⟨h0,b,l,h1,h2,h3,h4⟩:=h
 exact ⟨lt_of_at h1,lt_of_at h2⟩
set_option maxRecDepth 100000 in
theorem compare_call (a b:List UInt8) (w:World) (ha:a.length≤140737488355328) (hb:b.length≤140737488355328) :
 Calls Tryz.prog 173 #[.string (str a),.string (str b)] w fun e w'=>e=.returned (.int .i64 (cmpT a b))∧Kept [] w w':=by
 obtain ⟨R,hR⟩:∃ R,R=cmpT a b:=⟨_,rfl⟩
 have hs0:cmpP (partsB a) (partsB b)=R:=hR.symm
 rw [← hR]
 clear hR
 go_enter Tryz.func173,Tryz.ntmps173
 go_wp2_with fail
 refine (parts_call a _ ha).mono ?_
 rintro e w1 ⟨m1,a1,rfl,hP1,hK1,hm1,ha1⟩
 go_wp2_with fail
 refine (parts_call b _ hb).mono ?_
 rintro e w2 ⟨m2,a2,rfl,hP2,hK2,hm2,ha2⟩
 have l1:=hP1.lt
 have hQ1:=hP1.kept hK2 (by simp) (by simp)
 have hK:Kept [] w w2:=hK1.trans hK2 (by simp)
 have d1:m1 ∉ [m2,a2]:=by simp;omega
 have d2:a1 ∉ [m2,a2]:=by simp;omega
 have d3:m2 ∉ [m1,a1]:=by simp;omega
 have d4:a2 ∉ [m1,a1]:=by simp;omega
 have d5:∀ i∈[m1,a1],i∈([]:List Nat)∨w.heap.size≤i:=by simp;omega
 have d6:∀ i∈[m2,a2],i∈([]:List Nat)∨w.heap.size≤i:=by have:=hK1.size;simp;omega
 clear hP1 hK1 hm1 ha1 hK2 hm2 ha2 l1
 go_wp2_with fail
 go_loopw [] (fun wr=>∃ ps qs,PtAt wr m1 a1 ps∧PtAt wr m2 a2 qs∧cmpP ps qs=R∧Kept [] w wr) (fun wr=>leftOf m1 a1 wr)
 case atStart=>exact ⟨_,_,hQ1,hP2,hs0,hK⟩
 case round =>
  obtain ⟨ps,qs,hA,hB,hc,hKr⟩:=hrel
  clear hQ1 hP2 hs0 hK
  cases ps with
  | nil =>
    go_wp2_with fail
    refine (next_none wr m1 a1 hA).mono ?_
    rintro e w' ⟨rfl,rfl⟩
    go_wp2_with fail
    cases qs with
    | nil =>
      refine (next_none _ m2 a2 hB).mono ?_
      rintro e w' ⟨rfl,rfl⟩
      go_wp2
      go_ret
      exact ⟨by rw [← hc];rfl,hKr⟩
    | cons q qs =>
      refine (next_some _ m2 a2 q qs hB).mono ?_
      rintro e w3 ⟨rfl,hB',hK3⟩
      go_wp2
      go_ret
      exact ⟨by rw [← hc];rfl,hKr.trans hK3 d6⟩
  | cons p ps =>
    go_wp2_with fail
    refine (next_some wr m1 a1 p ps hA).mono ?_
    rintro e w3 ⟨rfl,hA3,hK3⟩
    have hB3:=hB.kept hK3 d3 d4
    have hKr3:=hKr.trans hK3 d5
    have hle:leftOf m1 a1 wr=ps.length+1:=by rw [hA.left];rfl
    clear hA hB hK3 hKr
    go_wp2_with fail
    cases qs with
    | nil =>
      refine (next_none _ m2 a2 hB3).mono ?_
      rintro e w' ⟨rfl,rfl⟩
      go_wp2
      go_ret
      exact ⟨by rw [← hc];rfl,hKr3⟩
    | cons q qs =>
      refine (next_some _ m2 a2 q qs hB3).mono ?_
      rintro e w4 ⟨rfl,hB4,hK4⟩
      have hA4:=hA3.kept hK4 d1 d2
      have hKr4:=hKr3.trans hK4 d6
      clear hB3 hK4 hA3 hKr3
      have hcm:=Tryz.strings_Compare (str p) (str q)
      rw [str_data,str_data] at hcm
      unfold cmpP lexC at hc
      by_cases h0:Lib.compareBytes p q=0
      ·rw [if_pos h0] at hc
       rw [h0] at hcm
       go_wp2_with (go_at_call 183;refine (hcm _).mono ?_;rintro e w' ⟨rfl,rfl⟩)
       go_roundw
       case rel=>exact ⟨ps,qs,hA4,hB4,hc,hKr4⟩
       case measure=>rw [hle,hA4.left];omega
      ·rw [if_neg h0] at hc
       rw [hc] at hcm h0
       go_wp2_with (go_at_call 183;refine (hcm _).mono ?_;rintro e w' ⟨rfl,rfl⟩)
       go_ret
       exact ⟨rfl,hKr4⟩
theorem str_toList (l:List UInt8):(str l).toList=l:=by rw [Go.ByteArray.toList_eq,str_data]
theorem str_full {d:List UInt8}(h:d≠[]):(str d).toList.isEmpty=false:=by rw [str_toList];cases d <;> simp_all
theorem str_void:(str []).toList.isEmpty=true:=by rw [str_toList];rfl
theorem letB_num (point:Bool) (c:UInt8):letB point c=((decide (97≤(c.toNat:Int)) && decide ((c.toNat:Int)≤122)) || (decide (48≤(c.toNat:Int)) && decide ((c.toNat:Int)≤57)) || decide ((c.toNat:Int)=95) || decide ((c.toNat:Int)=45) || (point && decide ((c.toNat:Int)=46))):=by
 have e:∀ n:Nat,(hn:n < 256)→(c==UInt8.ofNat n)=decide ((c.toNat:Int)=n):=by
  intro n hn
  rw [Bool.eq_iff_iff,beq_iff_eq,decide_eq_true_eq,← UInt8.toNat_inj,UInt8.toNat_ofNat']
  omega
 have l1:decide ((97:UInt8)≤c)=decide (97≤(c.toNat:Int)):=by
  rw [Bool.eq_iff_iff,decide_eq_true_eq,decide_eq_true_eq,UInt8.le_iff_toNat_le];show 97≤c.toNat↔_;omega
 have l2:decide (c≤(122:UInt8))=decide ((c.toNat:Int)≤122):=by
  rw [Bool.eq_iff_iff,decide_eq_true_eq,decide_eq_true_eq,UInt8.le_iff_toNat_le];show c.toNat≤122↔_;omega
 have l3:decide ((48:UInt8)≤c)=decide (48≤(c.toNat:Int)):=by
  rw [Bool.eq_iff_iff,decide_eq_true_eq,decide_eq_true_eq,UInt8.le_iff_toNat_le];show 48≤c.toNat↔_;omega
 have l4:decide (c≤(57:UInt8))=decide ((c.toNat:Int)≤57):=by
  rw [Bool.eq_iff_iff,decide_eq_true_eq,decide_eq_true_eq,UInt8.le_iff_toNat_le];show c.toNat≤57↔_;omega
 unfold letB
 rw [l1,l2,l3,l4,show (c==95)=_ from e 95 (by omega),show (c==45)=_ from e 45 (by omega),show (c==46)=_ from e 46 (by omega)]
 rfl
set_option maxRecDepth 100000 in
theorem nameByte_call (c:UInt8) (w:World) :
 Calls Tryz.prog 180 #[.int .u8 (c.toNat:Int)] w fun e w'=>e=.returned (.bool (letB false c))∧w'=w:=by
 rw [letB_num]
 have h0:(0:Int)≤(c.toNat:Int):=by omega
 have h1:(c.toNat:Int) < 256:=by have:=c.toNat_lt;omega
 generalize (c.toNat:Int)=x at h0 h1
 rcases (show x < 45∨x=45∨(45 < x∧x < 48)∨(48≤x∧x≤57)∨(57 < x∧x < 95)∨x=95∨x=96∨(97≤x∧x≤122)∨122 < x from by omega) with h | h | h | h | h | h | h | h | h
 all_goals
  go_enter Tryz.func180,Tryz.ntmps180
  go_wp2
  go_ret
 all_goals
  refine ⟨congrArg Ending.returned (congrArg Value.bool ?_),rfl⟩
  first | rfl | (rw [Bool.eq_iff_iff];simp;done) | (rw [Bool.eq_iff_iff];simp;omega)
theorem letB_point (c:UInt8):letB true c=(decide ((c.toNat:Int)=46) || letB false c):=by
 rw [letB_num,letB_num]
 rw [Bool.eq_iff_iff]
 simp
 omega
set_option maxRecDepth 100000 in
theorem partByte_call (c:UInt8) (w:World) :
 Calls Tryz.prog 212 #[.int .u8 (c.toNat:Int)] w fun e w'=>e=.returned (.bool (letB true c))∧w'=w:=by
 rw [letB_point]
 have cN:=nameByte_call c
 have h0:(0:Int)≤(c.toNat:Int):=by omega
 have h1:(c.toNat:Int) < 256:=by have:=c.toNat_lt;omega
 generalize letB false c=b at cN
 generalize (c.toNat:Int)=x at h0 h1 cN
 by_cases h:x=46
 ·subst h
  go_enter Tryz.func212,Tryz.ntmps212
  go_wp2_with fail
  go_ret
  exact ⟨rfl,rfl⟩
 ·have e:(x==46)=false:=by simpa using h
  rw [show decide (x=46)=false from by simpa using h]
  go_enter Tryz.func212,Tryz.ntmps212
  go_wp2_with (go_at_call 180;refine (cN _).mono ?_;rintro e w' ⟨rfl,rfl⟩)
  go_ret
  exact ⟨rfl,rfl⟩
theorem all_take_succ {f:UInt8→Bool}{l:List UInt8}{k:Nat}(h:k < l.length) (ha:(l.take k).all f=true) (hb:f l[k]=true):(l.take (k+1)).all f=true:=by
 rw [List.take_succ_eq_append_getElem h,List.all_append,ha];simp [hb]
set_option maxRecDepth 100000 in
theorem made_name (l:List UInt8) (w:World) (hl:l.length≤140737488355328) :
 Calls Tryz.prog 179 #[.string (str l),.func (.func 180) #[] #[]] w fun e w'=>e=.returned (.bool (decide (l.length≤24) && l.all (letB false)))∧w'=w:=by
 have hsz:((str l).size:Int)=l.length:=by rw [str_size]
 by_cases h24:l.length≤24
 ·rw [decide_eq_true h24,Bool.true_and]
  have hi:(l.length:Int)≤24:=by omega
  obtain ⟨R,hR⟩:∃ R,R=l.all (letB false):=⟨_,rfl⟩
  rw [← hR]
  go_enter Tryz.func179,Tryz.ntmps179
  go_wp2_with fail
  go_loop [11] (fun i=>∃ k:Nat,k≤l.length∧i=.int .i64 k∧(l.take k).all (letB false)=true) (fun i=>l.length - (intOf i).toNat)
  case atStart=>exact ⟨0,Nat.zero_le _,rfl,rfl⟩
  case round =>
   obtain ⟨k,hk,rfl,hall⟩:=hrel
   by_cases hlt:k < l.length
   ·have hlt':k < (str l).size:=by rw [str_size];exact hlt
    have cB:=nameByte_call (str l)[k]
    have hget:(str l)[k]=l[k]:=rfl
    go_wp2_with fail
    cases hb:letB false (str l)[k] with
    | false =>
      rw [hb] at cB
      rw [hget] at hb
      have hall':l.all (letB false)=false:=by
       rw [List.all_eq_false];exact ⟨l[k],List.getElem_mem hlt,by simp [hb]⟩
      rw [hall'] at hR
      subst hR
      refine (cB _).mono ?_
      rintro e w' ⟨rfl,rfl⟩
      go_wp2
      go_ret
      exact ⟨rfl,rfl⟩
    | true =>
      rw [hb] at cB
      rw [hget] at hb
      refine (cB _).mono ?_
      rintro e w' ⟨rfl,rfl⟩
      go_wp2
      go_round
      case rel=>exact ⟨k+1,by omega,by simp,all_take_succ hlt hall hb⟩
      case measure=>simp [intOf];omega
   ·obtain rfl:k=l.length:=by omega
    rw [List.take_length] at hall
    rw [hall] at hR
    subst hR
    go_wp2
    go_ret
    exact ⟨rfl,rfl⟩
 ·rw [decide_eq_false h24,Bool.false_and]
  have hi:24 < (l.length:Int):=by omega
  go_enter Tryz.func179,Tryz.ntmps179
  go_wp2_with fail
  go_ret
  exact ⟨rfl,rfl⟩
set_option maxRecDepth 100000 in
theorem made_part (l:List UInt8) (w:World) (hl:l.length≤140737488355328) :
 Calls Tryz.prog 179 #[.string (str l),.func (.func 212) #[] #[]] w fun e w'=>e=.returned (.bool (decide (l.length≤24) && l.all (letB true)))∧w'=w:=by
 have hsz:((str l).size:Int)=l.length:=by rw [str_size]
 by_cases h24:l.length≤24
 ·rw [decide_eq_true h24,Bool.true_and]
  have hi:(l.length:Int)≤24:=by omega
  obtain ⟨R,hR⟩:∃ R,R=l.all (letB true):=⟨_,rfl⟩
  rw [← hR]
  go_enter Tryz.func179,Tryz.ntmps179
  go_wp2_with fail
  go_loop [11] (fun i=>∃ k:Nat,k≤l.length∧i=.int .i64 k∧(l.take k).all (letB true)=true) (fun i=>l.length - (intOf i).toNat)
  case atStart=>exact ⟨0,Nat.zero_le _,rfl,rfl⟩
  case round =>
   obtain ⟨k,hk,rfl,hall⟩:=hrel
   by_cases hlt:k < l.length
   ·have hlt':k < (str l).size:=by rw [str_size];exact hlt
    have cB:=partByte_call (str l)[k]
    have hget:(str l)[k]=l[k]:=rfl
    go_wp2_with fail
    cases hb:letB true (str l)[k] with
    | false =>
      rw [hb] at cB
      rw [hget] at hb
      have hall':l.all (letB true)=false:=by
       rw [List.all_eq_false];exact ⟨l[k],List.getElem_mem hlt,by simp [hb]⟩
      rw [hall'] at hR
      subst hR
      refine (cB _).mono ?_
      rintro e w' ⟨rfl,rfl⟩
      go_wp2
      go_ret
      exact ⟨rfl,rfl⟩
    | true =>
      rw [hb] at cB
      rw [hget] at hb
      refine (cB _).mono ?_
      rintro e w' ⟨rfl,rfl⟩
      go_wp2
      go_round
      case rel=>exact ⟨k+1,by omega,by simp,all_take_succ hlt hall hb⟩
      case measure=>simp [intOf];omega
   ·obtain rfl:k=l.length:=by omega
    rw [List.take_length] at hall
    rw [hall] at hR
    subst hR
    go_wp2
    go_ret
    exact ⟨rfl,rfl⟩
 ·rw [decide_eq_false h24,Bool.false_and]
  have hi:24 < (l.length:Int):=by omega
  go_enter Tryz.func179,Tryz.ntmps179
  go_wp2_with fail
  go_ret
  exact ⟨rfl,rfl⟩
set_option maxRecDepth 100000 in
theorem name_call (l:List UInt8) (w:World) (hl:l.length≤140737488355328) :
 Calls Tryz.prog 170 #[.string (str l)] w fun e w'=>e=.returned (.bool (wordB false l))∧w'=w:=by
 by_cases h0:l=[]
 ·subst h0
  have hE:=str_void
  rw [show wordB false []=false from rfl]
  go_enter Tryz.func170,Tryz.ntmps170
  go_wp2_with fail
  go_ret
  exact ⟨rfl,rfl⟩
 ·have hE:=str_full h0
  have cM:=made_name l
  have e1:wordB false l=(decide (l.length≤24) && l.all (letB false)):=by
   unfold wordB;cases l with
   | nil=>exact absurd rfl h0
   | cons c t=>simp
  rw [e1]
  generalize (decide (l.length≤24) && l.all (letB false))=b at cM
  go_enter Tryz.func170,Tryz.ntmps170
  go_wp2_with (go_at_call 179;refine (cM _ hl).mono ?_;rintro e w' ⟨rfl,rfl⟩)
  go_ret
  exact ⟨rfl,rfl⟩
set_option maxRecDepth 100000 in
theorem isPart_call (l:List UInt8) (w:World) (h0:l≠[]) (hl:l.length≤140737488355328) :
 Calls Tryz.prog 197 #[.string (str l)] w fun e w'=>e=.returned (.bool (wordB true l))∧w'=w:=by
 have cM:=made_part l
 have e1:wordB true l=(decide (l.length≤24) && l.all (letB true)):=by
  unfold wordB;cases l with
  | nil=>exact absurd rfl h0
  | cons c t=>simp
 rw [e1]
 generalize (decide (l.length≤24) && l.all (letB true))=b at cM
 go_enter Tryz.func197,Tryz.ntmps197
 go_wp2_with (go_at_call 179;refine (cM _ hl).mono ?_;rintro e w' ⟨rfl,rfl⟩)
 go_ret
 exact ⟨rfl,rfl⟩
def Nx (w:World) (m a:Nat) (rs:List (List UInt8)) (P:ByteArray) (M:Bool):Prop :=
 (rs=[]∧P=ByteArray.empty∧M=false∧PtAt w m a [])∨(∃ p ps,rs=p :: ps∧P=str p∧M=true∧PtAt w m a ps)
theorem next_any (w:World) (m a:Nat) (rs:List (List UInt8)) (h:PtAt w m a rs) :
 Calls Tryz.prog 191 #[.pointer (some ⟨m,0,none⟩),.pointer (some ⟨a,0,none⟩)] w fun e w'=>∃ P M,e=.returned (.tuple #[.string P,.bool M])∧Nx w' m a rs P M∧Kept [m,a] w w':=by
 cases rs with
 | nil =>
   refine (next_none w m a h).mono ?_
   rintro e w' ⟨rfl,rfl⟩
   exact ⟨_,_,rfl,.inl ⟨rfl,rfl,rfl,h⟩,Kept.refl _ _⟩
 | cons p ps =>
   refine (next_some w m a p ps h).mono ?_
   rintro e w' ⟨rfl,h1,h2⟩
   exact ⟨_,_,rfl,.inr ⟨p,ps,rfl,rfl,rfl,h1⟩,h2⟩
def KA (w:World) (b:Nat) (k:List (List UInt8)):Prop :=
 ∃ vs:Array Value,w.heap[b]?=some (.cells vs 237 (0,0))∧vs.size=8∧∀ i,i < 8→∃ s:List UInt8,vs[i]?=some (.string (str s))∧∀ x,k[i]?=some x→s=x
theorem KA.kept {S:List Nat}{w w':World}{b:Nat}{k:List (List UInt8)}(h:KA w b k) (hk:Kept S w w') (hb:b ∉ S):KA w' b k:=by
 obtain ⟨vs,h1,h2⟩:=h
 exact ⟨vs,hk.at h1 hb,h2⟩
theorem KA.pop {w:World}{b:Nat}{k:List (List UInt8)}(h:KA w b k):KA w b k.dropLast:=by
 obtain ⟨vs,h1,h2,h3⟩:=h
 refine ⟨vs,h1,h2,fun i hi=>?_⟩
 obtain ⟨s,h4,h5⟩:=h3 i hi
 refine ⟨s,h4,fun x hx=>h5 x ?_⟩
 rw [List.getElem?_dropLast] at hx
 split at hx
 ·exact hx
 ·cases hx
theorem KA.far {w:World}{b:Nat}{k:List (List UInt8)}(h:KA w b k) (p:List UInt8) (hk:8≤k.length):KA w b (k++[p]):=by
 obtain ⟨vs,h1,h2,h3⟩:=h
 refine ⟨vs,h1,h2,fun i hi=>?_⟩
 obtain ⟨s,h4,h5⟩:=h3 i hi
 refine ⟨s,h4,fun x hx=>h5 x ?_⟩
 rw [List.getElem?_append_left (by omega)] at hx
 exact hx
theorem KA.cell {w:World}{b:Nat}{k:List (List UInt8)}(h:KA w b k) (i:Nat) (hi:i < 8):(∃ s,w.cell? ⟨b,i,none⟩=some (.string (str s))∧∀ x,k[i]?=some x→s=x)∧w.frozen? ⟨b,i,none⟩=false:=by
 obtain ⟨vs,h1,h2,h3⟩:=h
 obtain ⟨s,h4,h5⟩:=h3 i hi
 refine ⟨⟨s,?_,h5⟩,?_⟩
 ·simp [World.cell?,h1,h4]
 ·simp [World.frozen?,h1]
theorem KA.push {w:World}{b:Nat}{k:List (List UInt8)}(h:KA w b k) (p:List UInt8) (hk:k.length < 8):KA (w.setCell ⟨b,k.length,none⟩ (.string (str p))) b (k++[p]):=by
 obtain ⟨vs,h1,h2,h3⟩:=h
 have hlt:=lt_of_at h1
 refine ⟨vs.setIfInBounds k.length (.string (str p)),?_,by simp [h2],fun i hi=>?_⟩
 ·have h':w.heap[b]=.cells vs 237 (0,0):=by simpa [Array.getElem?_eq_getElem hlt] using h1
  show (w.heap.modify b _)[b]?=_
  rw [Array.getElem?_modify]
  simp [h1]
 ·by_cases e:i=k.length
  ·subst e
   refine ⟨p,by rw [Array.getElem?_setIfInBounds_self_of_lt (by omega)],fun x hx=>?_⟩
   simpa using hx
  ·obtain ⟨s,h4,h5⟩:=h3 i hi
   refine ⟨s,by rw [Array.getElem?_setIfInBounds_ne (Ne.symm e)];exact h4,fun x hx=>h5 x ?_⟩
   by_cases e2:i < k.length
   ·rw [List.getElem?_append_left e2] at hx;exact hx
   ·rw [List.getElem?_eq_none (by simp;omega)] at hx;cases hx
def ResPost (w:World) (r:Option (List (List UInt8))) (e:Ending) (w':World):Prop :=
 Kept [] w w'∧((∃ k b,r=some k∧k≠[]∧k.length≤8∧e=.returned (.tuple #[.slice (some ⟨b,0,none⟩) k.length 8,.bool true])∧b < w'.heap.size∧w.heap.size≤b∧KA w' b k) ∨
  ((∀ k,r=some k→k=[]∨8 < k.length)∧e=.returned (.tuple #[.slice none 0 0,.bool false])))
def moreOf:Value→Nat
 | .bool true=>1
 | _=>0
theorem Nx.left {w:World}{m a:Nat}{rs:List (List UInt8)}{P:ByteArray}{M:Bool}(h:Nx w m a rs P M):leftOf m a w+moreOf (.bool M)=rs.length:=by
 rcases h with ⟨rfl,_,rfl,h⟩ | ⟨p,ps,rfl,_,rfl,h⟩
 ·rw [h.left];rfl
 ·rw [h.left];rfl
set_option maxRecDepth 100000 in
theorem resolve_call (l:List UInt8) (w:World) (hl:l.length≤140737488355328) :
 Calls Tryz.prog 196 #[.string (str l)] w (ResPost w (resB [] (partsB l))):=by
 have hN:=partsB_le l
 obtain ⟨R,hR⟩:∃ R,R=resB [] (partsB l):=⟨_,rfl⟩
 rw [← hR]
 have hR0:=hR.symm
 clear hR
 have hKA0:KA (w.alloc (.cells #[.string ⟨#[]⟩,.string ⟨#[]⟩,.string ⟨#[]⟩,.string ⟨#[]⟩,.string ⟨#[]⟩,.string ⟨#[]⟩,.string ⟨#[]⟩,.string ⟨#[]⟩] 237)) w.heap.size []:=by
  refine ⟨_,heap_alloc_new _ _,rfl,fun i hi=>⟨[],?_,by simp⟩⟩
  match i,hi with
  | 0,_=>rfl
  | 1,_=>rfl
  | 2,_=>rfl
  | 3,_=>rfl
  | 4,_=>rfl
  | 5,_=>rfl
  | 6,_=>rfl
  | 7,_=>rfl
 go_enter Tryz.func196,Tryz.ntmps196
 go_wp2_with fail
 refine (parts_call l _ hl).mono ?_
 rintro e w1 ⟨m1,a1,rfl,hP1,hK1,hm1,ha1⟩
 have hKA1:=hKA0.kept hK1 (by simp)
 have hKw1:Kept [] w w1:=((Kept.refl [] w).alloc _).trans hK1 (by simp)
 have hm1':w.heap.size < m1:=by simp at hm1;omega
 have ha1':w.heap.size < a1:=by simp at ha1;omega
 have d1:w.heap.size ∉ [m1,a1]:=by simp;omega
 have d2:∀ i∈[m1,a1],i∈([]:List Nat)∨w.heap.size≤i:=by simp;omega
 clear hKA0 hm1 ha1 hK1
 go_wp2_with fail
 refine (next_any w1 m1 a1 _ hP1).mono ?_
 rintro e w2 ⟨P0,M0,rfl,hN2,hK2⟩
 have hKA2:=hKA1.kept hK2 d1
 have hKw2:=hKw1.trans hK2 d2
 clear hKA1 hKw1 hP1 hK2
 go_wp2_with fail
 go_loopw [5,7,8] (fun d pv mv wr=>∃ (k rs:List (List UInt8)) (P:ByteArray) (M:Bool),d=.int .i64 k.length∧pv=.string P∧mv=.bool M∧Nx wr m1 a1 rs P M∧KA wr w.heap.size k∧resB k rs=R∧Kept [] w wr∧k.length+rs.length≤(partsB l).length) (fun _ _ mv wr=>leftOf m1 a1 wr+moreOf mv)
 case atStart=>exact ⟨[],partsB l,P0,M0,rfl,rfl,rfl,hN2,hKA2,hR0,hKw2,by simp⟩
 case round =>
  obtain ⟨k,rs,P,M,rfl,rfl,rfl,hNx,hKA,hres,hKw,hlen⟩:=hrel
  clear hN2 hKA2 hR0 hKw2
  have hleft:=hNx.left
  rcases hNx with ⟨rfl,rfl,rfl,hP⟩ | ⟨p,ps,rfl,rfl,rfl,hP⟩
  ·simp only [resB] at hres
   clear hleft
   by_cases h0:k=[]
   ·subst h0
    go_wp2_with fail
    go_ret2
    exact ⟨hKw,.inr ⟨fun k hk=>by rw [← hres] at hk;cases hk;exact .inl rfl,rfl⟩⟩
   ·have h0':0 < k.length:=List.length_pos_iff.2 h0
    have h0i:0 < (k.length:Int):=by omega
    have hz:((k.length:Int)==0)=false:=by simpa using h0
    by_cases h8:k.length≤8
    ·have h8i:(k.length:Int)≤8:=by omega
     go_wp2_with fail
     go_ret2
     exact ⟨hKw,.inl ⟨k,w.heap.size,hres.symm,h0,h8,by simp,by have:=hP.lt;omega,Nat.le_refl _,hKA⟩⟩
    ·have h8i:8 < (k.length:Int):=by omega
     go_wp2_with fail
     go_ret2
     exact ⟨hKw,.inr ⟨fun k' hk=>by rw [← hres] at hk;cases hk;exact .inr (by omega),rfl⟩⟩
  ·have hkl:(k.length:Int)≤140737488355329:=by simp at hlen;omega
   have hk0:(0:Int)≤k.length:=by omega
   simp only [resB] at hres
   by_cases e0:p=[]
   ·subst e0
    have t0:=str_void
    rw [if_pos (.inl rfl)] at hres
    go_wp2_with fail
    refine (next_any _ m1 a1 ps hP).mono ?_
    rintro e w3 ⟨P3,M3,rfl,hN3,hK3⟩
    have hl3:=hN3.left
    go_wp2_with fail
    go_roundw
    case rel=>exact ⟨k,ps,P3,M3,rfl,rfl,rfl,hN3,(hKA).kept hK3 d1,hres,(hKw).trans hK3 d2,by simp at hlen ⊢;omega⟩
    case measure=>show leftOf m1 a1 w3+moreOf (Value.bool M3) < leftOf m1 a1 wr+moreOf (Value.bool true);rw [hl3,hleft];simp
   ·have t0:=str_full e0
    by_cases e1:p=[46]
    ·subst e1
     have t1:((str [46]).toList==[46])=true:=by rw [str_toList];rfl
     rw [if_pos (.inr rfl)] at hres
     go_wp2_with fail
     refine (next_any _ m1 a1 ps hP).mono ?_
     rintro e w3 ⟨P3,M3,rfl,hN3,hK3⟩
     have hl3:=hN3.left
     go_wp2_with fail
     go_roundw
     case rel=>exact ⟨k,ps,P3,M3,rfl,rfl,rfl,hN3,(hKA).kept hK3 d1,hres,(hKw).trans hK3 d2,by simp at hlen ⊢;omega⟩
     case measure=>show leftOf m1 a1 w3+moreOf (Value.bool M3) < leftOf m1 a1 wr+moreOf (Value.bool true);rw [hl3,hleft];simp
    ·have t1:((str p).toList==[46])=false:=by rw [str_toList];simpa using e1
     rw [if_neg (by simp [e0,e1])] at hres
     by_cases e2:p=[46,46]
     ·subst e2
      have t2:((str [46,46]).toList==[46,46])=true:=by rw [str_toList];rfl
      rw [if_pos rfl] at hres
      by_cases h0:k=[]
      ·subst h0
       rw [if_pos rfl] at hres
       go_wp2_with fail
       go_ret2
       exact ⟨hKw,.inr ⟨fun k hk=>(by rw [← hres] at hk;cases hk),rfl⟩⟩
      ·have h0':0 < k.length:=List.length_pos_iff.2 h0
       have h0i:0 < (k.length:Int):=by omega
       rw [if_neg h0] at hres
       go_wp2_with fail
       refine (next_any _ m1 a1 ps hP).mono ?_
       rintro e w3 ⟨P3,M3,rfl,hN3,hK3⟩
       have hl3:=hN3.left
       go_wp2_with fail
       go_roundw
       case rel=>exact ⟨k.dropLast,ps,P3,M3,by simp only [List.length_dropLast];congr 1;omega,rfl,rfl,hN3,(hKA.pop).kept hK3 d1,hres,(hKw).trans hK3 d2,by simp at hlen ⊢;omega⟩
       case measure=>show leftOf m1 a1 w3+moreOf (Value.bool M3) < leftOf m1 a1 wr+moreOf (Value.bool true);rw [hl3,hleft];simp
     ·have t2:((str p).toList==[46,46])=false:=by rw [str_toList];simpa using e2
      rw [if_neg e2] at hres
      by_cases h8:k.length < 8
      ·have h8i:(k.length:Int) < 8:=by omega
       obtain ⟨⟨s0,hcell,_⟩,hfree⟩:=hKA.cell k.length h8
       go_wp2_with fail
       refine (next_any _ m1 a1 ps (hP.kept ((Kept.refl [w.heap.size] wr).setCell (by simp) _) (by simp;omega) (by simp;omega))).mono ?_
       rintro e w3 ⟨P3,M3,rfl,hN3,hK3⟩
       have hl3:=hN3.left
       go_wp2_with fail
       go_roundw
       case rel=>exact ⟨k++[p],ps,P3,M3,by simp,rfl,rfl,hN3,(hKA.push p h8).kept hK3 d1,hres,(hKw.setCell (.inr (Nat.le_refl _)) _).trans hK3 d2,by simp at hlen ⊢;omega⟩
       case measure=>show leftOf m1 a1 w3+moreOf (Value.bool M3) < leftOf m1 a1 wr+moreOf (Value.bool true);rw [hl3,hleft];simp
      ·have h8i:¬ (k.length:Int) < 8:=by omega
       go_wp2_with fail
       refine (next_any _ m1 a1 ps hP).mono ?_
       rintro e w3 ⟨P3,M3,rfl,hN3,hK3⟩
       have hl3:=hN3.left
       go_wp2_with fail
       go_roundw
       case rel=>exact ⟨k++[p],ps,P3,M3,by simp,rfl,rfl,hN3,(hKA.far p (by omega)).kept hK3 d1,hres,(hKw).trans hK3 d2,by simp at hlen ⊢;omega⟩
       case measure=>show leftOf m1 a1 w3+moreOf (Value.bool M3) < leftOf m1 a1 wr+moreOf (Value.bool true);rw [hl3,hleft];simp
def tup:Option (List UInt8)→Value
 | some p=>.tuple #[.string (str p),.bool true]
 | none=>.tuple #[.string ByteArray.empty,.bool false]
set_option maxRecDepth 100000 in
theorem clone_call (l:List UInt8) (w:World) (hl:l.length≤140737488355328) :
 Calls Tryz.prog 118 #[.string (str l)] w fun e w'=>e=.returned (.string (str l))∧Kept [] w w':=by
 have cC:=Tryz.stringslite_Clone (str l)
 have hl':(str l).size≤281474976710656:=by rw [str_size];omega
 go_enter Tryz.func118,Tryz.ntmps118
 go_wp2_with fail
 refine (cC _ hl').mono ?_
 rintro e w' ⟨rfl,hB⟩
 go_wp2
 go_ret
 exact ⟨rfl,Kept.of_below hB⟩
set_option maxRecDepth 100000 in
theorem joins_call (k:List (List UInt8)) (b:Nat) (w:World) (h8:k.length≤8) (hb:b < w.heap.size) (hK:KA w b k) (hj:(joinB k).length≤140737488355328) :
 Calls Tryz.prog 213 #[.slice (some ⟨b,0,none⟩) k.length 8,.string ⟨#[47]⟩] w fun e w'=>e=.returned (.string (str (joinB k)))∧Kept [] w w':=by
 have e1:(k.map str).map (fun x=>x.data.toList)=k:=by
  rw [List.map_map];conv=>rhs;rw [← List.map_id k]
  exact List.map_congr_left fun x _=>str_data x
 have h:=Tryz.strings_Join b 0 8 (k.map str) ⟨#[47]⟩ w ?_ hb (by simp;omega) (by simpa using h8) (by rw [e1];exact hj)
 ·rw [e1,List.length_map] at h
  refine h.mono ?_
  rintro e w' ⟨rfl,hB⟩
  exact ⟨rfl,Kept.of_below hB⟩
 ·intro j x hx
  rw [List.getElem?_map] at hx
  cases hkj:k[j]? with
  | none=>rw [hkj] at hx;cases hx
  | some y =>
    rw [hkj] at hx
    cases hx
    have hjlt:j < k.length:=by
     by_cases h:j < k.length
     ·exact h
     ·rw [List.getElem?_eq_none (by omega)] at hkj;cases hkj
    obtain ⟨⟨s,h1,h2⟩,_⟩:=hK.cell j (by omega)
    rw [Nat.zero_add,h1,h2 y hkj]
theorem joinB_le (k:List (List UInt8)) (n m:Nat) (hk:k.length≤n) (h:∀ p∈k,p.length≤m):(joinB k).length≤n*(m+1):=by
 induction k generalizing n with
 | nil=>simp [joinB,Lib.join_nil]
 | cons p r ih =>
   cases n with
   | zero=>simp at hk
   | succ n =>
     have hp:=h p (by simp)
     cases r with
     | nil=>rw [joinB_one,Nat.succ_mul];omega
     | cons q r =>
       have:=ih n (by simp at hk ⊢;omega) (fun x hx=>h x (by simp [hx]))
       rw [joinB_cons2,Nat.succ_mul]
       simp only [List.length_append,List.length_cons]
       omega
set_option maxRecDepth 100000 in
theorem join_call (k:List (List UInt8)) (b:Nat) (w:World) (h8:k.length≤8) (hb:b < w.heap.size) (hK:KA w b k) (hj:(joinB k).length≤140737488355328) :
 Calls Tryz.prog 198 #[.slice (some ⟨b,0,none⟩) k.length 8] w fun e w'=>e=.returned (tup (if (joinB k).length≤64 then some (joinB k) else none))∧Kept [] w w':=by
 have cJ:=joins_call k b w h8 hb hK hj
 have hsz:((str (joinB k)).size:Int)=(joinB k).length:=by rw [str_size]
 generalize joinB k=J at *
 by_cases h64:J.length≤64
 ·rw [if_pos h64]
  have hi:(J.length:Int)≤64:=by omega
  unfold tup
  go_enter Tryz.func198,Tryz.ntmps198
  go_wp2_with fail
  refine cJ.mono ?_
  rintro e w1 ⟨rfl,hK1⟩
  go_wp2_with fail
  refine (clone_call J _ hj).mono ?_
  rintro e w2 ⟨rfl,hK2⟩
  go_wp2
  go_ret2
  exact ⟨rfl,hK1.trans hK2 (by simp)⟩
 ·rw [if_neg h64]
  have hi:64 < (J.length:Int):=by omega
  unfold tup
  go_enter Tryz.func198,Tryz.ntmps198
  go_wp2_with fail
  refine cJ.mono ?_
  rintro e w1 ⟨rfl,hK1⟩
  go_wp2_with fail
  go_ret2
  exact ⟨rfl,hK1⟩
theorem resB_sub (k ps r:List (List UInt8)) (h:resB k ps=some r):∀ p∈r,p∈k∨p∈ps:=by
 induction ps generalizing k with
 | nil=>simp only [resB,Option.some.injEq] at h;subst h;exact fun p hp=>.inl hp
 | cons q ps ih =>
   simp only [resB] at h
   intro p hp
   split at h
   ·rcases ih k h p hp with h1 | h1
    ·exact .inl h1
    ·exact .inr (by simp [h1])
   ·split at h
    ·split at h
     ·cases h
     ·rcases ih _ h p hp with h1 | h1
      ·exact .inl (List.dropLast_subset k h1)
      ·exact .inr (by simp [h1])
    ·rcases ih _ h p hp with h1 | h1
     ·simp only [List.mem_append,List.mem_singleton] at h1
      rcases h1 with h1 | rfl
      ·exact .inl h1
      ·exact .inr (by simp)
     ·exact .inr (by simp [h1])
theorem partsB_short (l:List UInt8):∀ p∈partsB l,p.length≤l.length:=by
 induction l with
 | nil=>simp [partsB]
 | cons c t ih =>
   rw [partsB_cons]
   intro p hp
   split at hp
   ·simp only [List.mem_cons] at hp
    rcases hp with rfl | hp
    ·simp
    ·have:=ih p hp;simp;omega
   ·split at hp
    ·simp only [List.mem_singleton] at hp;subst hp;simp
    ·rename_i q qs hq
     rw [hq] at ih
     simp only [List.mem_cons] at hp
     rcases hp with rfl | hp
     ·have:=ih q (by simp);simp;omega
     ·have:=ih p (by simp [hp]);simp;omega
theorem all_take_succ' {α:Type}{f:α→Bool}{l:List α}{k:Nat}(h:k < l.length) (ha:(l.take k).all f=true) (hb:f l[k]=true):(l.take (k+1)).all f=true:=by
 rw [List.take_succ_eq_append_getElem h,List.all_append,ha];simp [hb]
set_option maxRecDepth 100000 in
theorem normal_call (l:List UInt8) (w:World) (hl:l.length≤1000000000000) :
 Calls Tryz.prog 187 #[.string (str l)] w fun e w'=>e=.returned (tup (normB l))∧Kept [] w w':=by
 have cR:=resolve_call l w (by omega)
 obtain ⟨T,hT⟩:∃ T,T=tup (normB l):=⟨_,rfl⟩
 rw [← hT]
 go_enter Tryz.func187,Tryz.ntmps187
 go_wp2_with fail
 refine cR.mono ?_
 rintro e w1 ⟨hK1,⟨k,b,hr,h0,h8,rfl,hb,hbw,hKA⟩ | ⟨hno,rfl⟩⟩
 ·have hst:=resB_stays [] _ k (by simp) (partsB_free l) hr
  have hsh:∀ p∈k,p.length≤l.length:=by
   intro p hp
   rcases resB_sub _ _ _ hr p hp with h | h
   ·simp at h
   ·exact partsB_short l p h
  have hj:(joinB k).length≤140737488355328:=by
   have:=joinB_le k 8 l.length h8 hsh;omega
  have hfin:normB l=finB k:=by unfold normB;rw [hr];rfl
  rw [hfin] at hT
  have cJ:=join_call k b w1 h8 hb hKA hj
  have h8i:(k.length:Int)≤8:=by omega
  clear hfin hr
  go_wp2_with fail
  go_loop [17] (fun i=>∃ j:Nat,j≤k.length∧i=.int .i64 j∧(k.take j).all (wordB true)=true) (fun i=>k.length - (intOf i).toNat)
  case atStart=>exact ⟨0,Nat.zero_le _,rfl,rfl⟩
  case round =>
   obtain ⟨j,hjk,rfl,hall⟩:=hrel
   by_cases hlt:j < k.length
   ·obtain ⟨⟨s,hc,hs⟩,_⟩:=hKA.cell j (by omega)
    obtain rfl:=hs k[j] (List.getElem?_eq_getElem hlt)
    have cP:=isPart_call k[j] w1 (hst _ (List.getElem_mem hlt)).1 (by have:=hsh _ (List.getElem_mem hlt);omega)
    go_wp2_with fail
    cases hw:wordB true k[j] with
    | false =>
      rw [hw] at cP
      have hall':k.all (wordB true)=false:=by
       rw [List.all_eq_false];exact ⟨k[j],List.getElem_mem hlt,by simp [hw]⟩
      have hfn:finB k=none:=by
       unfold finB;rw [if_neg (by simp [h0];omega),if_neg (by simp [hall'])]
      rw [hfn] at hT
      subst hT
      refine cP.mono ?_
      rintro e w' ⟨rfl,rfl⟩
      go_wp2_with fail
      go_ret2
      exact ⟨rfl,hK1⟩
    | true =>
      rw [hw] at cP
      refine cP.mono ?_
      rintro e w' ⟨rfl,rfl⟩
      go_wp2_with fail
      go_round
      case rel=>exact ⟨j+1,by omega,by simp,all_take_succ' hlt hall hw⟩
      case measure=>simp [intOf];omega
   ·obtain rfl:j=k.length:=by omega
    rw [List.take_length] at hall
    have hfn:finB k=if (joinB k).length≤64 then some (joinB k) else none:=by
     unfold finB;rw [if_neg (by simp [h0];omega),hall];simp
    rw [hfn] at hT
    go_wp2_with fail
    refine cJ.mono ?_
    rintro e w2 ⟨rfl,hK2⟩
    rw [← hT]
    by_cases h64:(joinB k).length≤64
    ·rw [if_pos h64] at hT
     subst hT
     unfold tup
     go_wp2_with fail
     go_ret2
     exact ⟨rfl,hK1.trans hK2 (by simp)⟩
    ·rw [if_neg h64] at hT
     subst hT
     unfold tup
     go_wp2_with fail
     go_ret2
     exact ⟨rfl,hK1.trans hK2 (by simp)⟩
 ·have hfin:normB l=none:=by
   unfold normB
   cases hr:resB [] (partsB l) with
   | none=>rfl
   | some k =>
     show finB k=none
     unfold finB
     rw [if_pos (hno k hr)]
  rw [hfin] at hT
  subst hT
  go_wp2_with fail
  go_ret2
  exact ⟨rfl,hK1⟩
end Go.Proofs.YtddhmfildfdbdaaGreat
