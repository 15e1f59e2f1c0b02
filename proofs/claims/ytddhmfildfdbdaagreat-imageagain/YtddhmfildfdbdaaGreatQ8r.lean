/-
  Texts of this claim that are laid as one: ChSort, ChSame, ChChk, ChKept.
-/
import Derived.Test.YtddhmfildfdbdaaGreatQ7r
import Derived.Test.YtddhmfildfdbdaaGreatQ3r
import Derived.Test.YtddhmfildfdbdaaGreatQ1r
import Derived.Test.YtddhmfildfdbdaaGreatQ5r
import Derived.WalkSpells
set_option maxHeartbeats 4000000
/-
 change.Sorted.
-/
namespace Go.Proofs.YtddhmfildfdbdaaGreat
open Go.RowKit
theorem seg_list (L:List Ch) (z:Ch):seg (fun i=>L.getD i z) 0 L.length=L:=by
 apply List.ext_getElem
 ·rw [seg_length];omega
 ·intro i h1 h2
  rw [seg_get,Nat.zero_add]
  simp [List.getD,h2]
theorem sorted_is {L:List Ch}{z:Ch}{h:Nat→Ch}(hR:RisF h 0 L.length) (hA:AlikeF (fun i=>L.getD i z) h 0 L.length):seg h 0 L.length=sortC L:=by
 have h1:=hA.alike
 rw [seg_list] at h1
 exact (h1.symm.trans (sortC_alike L)).one hR.ris (sortC_ris L)
theorem cloneC_call (w:World) (ao:Option Addr) (n c:Nat) (L:List Ch) (hS:SlC w ao n c L) (hnil:ao=none→c=0) (hn:n≤1000000000) :
 Calls Tryz.prog 136 #[.slice ao n c] w fun e w'=>∃ v,e=.returned v∧OwnC w.heap.size w' v L∧Kept [] w w':=by
 have hl:=hS.1
 have hc:=hS.2.1
 have hm:=hS.2.2.1
 unfold maxLen at hm
 have q0:∀ (w:World) (a:Option Addr) (n c:Nat),(binOp .eql 74 (.slice a n c) (.slice none 0 0)).run Tryz.prog w=.ok (.bool a.isNone) w:=fun w a n c=>Lib.run_eql_slice_nil w _ _ a n c 0 0 Tryz.underlying74
 cases ao with
 | none =>
   obtain rfl:=hnil rfl
   obtain rfl:n=0:=by omega
   obtain rfl:L=[]:=by simpa using hl
   clear hS
   go_enter Tryz.func136,Tryz.ntmps136
   go_wp2_with fail
   go_ret
   exact ⟨_,rfl,OwnC.nil _ _,Kept.refl _ _⟩
 | some ad =>
   have hA:=(Kept.refl [] w).alloc (.cells #[] 116)
   have hO0:=own_voidC w w.heap.size (Nat.le_refl _)
   have HS:Hid (SlC (w.alloc (.cells #[] 116)) (some ad) n c L):=hS.kept hA (by simp)
   have HL:Hid (L.length=n):=hl
   clear hS hl
   go_enter Tryz.func136,Tryz.ntmps136
   go_wp2_with (at_builtin;refine wp_appC rfl _ _ rfl w.heap.size _ [] rfl hO0 ad n c L rfl HL.out.symm HS.out.runs' (by rw [HL.out];simp;omega) (by simp) ?_)
   intro v' w' hO hg
   have hK:=grown_keptC hA hO0 (Nat.le_refl _) hg
   clear hg hO0
   go_wp2_with fail
   go_ret
   exact ⟨v',rfl,hO,hK⟩
theorem keptC_up {B:Nat}{a b w:World}{g:Nat}(h:Kept [] a b) (k:Kept [g] b w) (hg:B≤g) (hB:a.heap.size≤B):Kept [] a w :=
 h.trans k (by intro i hi;simp at hi;subst hi;exact .inr (by omega))
theorem bd_list {L:List Ch}(hp:∀ x∈L,x.p.length≤140737488355328) (z:Ch):Bd (fun i=>L.getD i z) L.length:=fun k hk=>by
 have e:L.getD k z=L[k]:=by simp [List.getD,hk]
 show (L.getD k z).p.length≤_
 rw [e]
 exact hp _ (List.getElem_mem hk)
theorem ins_void (w:World) (ao:Option Addr) (c:Nat) (v:Value) :
 Calls Tryz.prog 200 #[.slice ao 0 c,.int .i64 0,.int .i64 0,v] w fun e w'=>e=.returned (.tuple #[])∧w'=w:=by
 go_enter Tryz.func200,Tryz.ntmps200
 go_wp2_with fail
 refine wp_loop_rounds 1 ?_
 rw [rounds_succ]
 go_wp2_with fail
 go_returns
 exact ⟨rfl,rfl⟩
theorem stable_void (w:World) (ao:Option Addr) (c:Nat) (v:Value) :
 Calls Tryz.prog 190 #[.slice ao 0 c,.int .i64 0,v] w fun e w'=>e=.returned (.tuple #[])∧w'=w:=by
 go_enter Tryz.func190,Tryz.ntmps190
 go_wp2_with fail
 refine wp_loop_rounds 1 ?_
 rw [rounds_succ]
 go_wp2_with fail
 refine (ins_void _ _ _ _).mono ?_
 rintro e w' ⟨rfl,rfl⟩
 go_wp2_with fail
 refine wp_loop_rounds 1 ?_
 rw [rounds_succ]
 go_wp2_with fail
 go_returns
 exact ⟨rfl,rfl⟩
theorem sortStable_void (w:World) (ao:Option Addr) (c:Nat) :
 Calls Tryz.prog 181 #[.slice ao 0 c,.func (.func 172) #[] #[]] w fun e w'=>e=.returned (.tuple #[])∧w'=w:=by
 go_enter Tryz.func181,Tryz.ntmps181
 go_wp2_with fail
 refine (stable_void _ _ _ _).mono ?_
 rintro e w' ⟨rfl,rfl⟩
 go_wp2_with fail
 go_returns
 exact ⟨rfl,rfl⟩
theorem sortedBy_call (w:World) (ao:Option Addr) (n c:Nat) (L:List Ch) (hS:SlC w ao n c L) (hnil:ao=none→c=0) (hn:n≤1000000000) (hp:∀ x∈L,x.p.length≤140737488355328) :
 Calls Tryz.prog 171 #[.slice ao n c,.func (.func 172) #[] #[]] w fun e w'=>∃ v,e=.returned v∧OwnC w.heap.size w' v (sortC L)∧Kept [] w w':=by
 have cC:=cloneC_call w ao n c L hS hnil hn
 have hl:=hS.1
 subst hl
 clear hS
 have HP:Hid (∀ x∈L,x.p.length≤140737488355328):=hp
 clear hp
 go_enter Tryz.func171,Tryz.ntmps171
 go_wp2_with fail
 refine cC.mono ?_
 rintro e w1 ⟨v,rfl,hO,hK1⟩
 clear cC
 by_cases h0:L.length=0
 ·obtain rfl:L=[]:=by simpa using h0
  obtain ⟨bo,cb,hv,_⟩:=hO.sl
  replace hv:v=.slice bo 0 cb:=hv
  subst hv
  have HO:Hid (OwnC w.heap.size w1 (.slice bo 0 cb) []):=hO
  clear hO
  go_wp2_with fail
  refine (sortStable_void _ _ _).mono ?_
  rintro e w2 ⟨rfl,rfl⟩
  go_wp2_with fail
  go_ret
  exact ⟨_,rfl,HO.out,hK1⟩
 ·obtain ⟨g,cap,rfl,hg,hR⟩:=hO.row (by omega) ⟨[],false,0⟩
  have cS:=sortStable_call w1 g L.length cap _ hR (bd_list HP.out _) (by omega)
  clear hO hR
  go_wp2_with fail
  refine cS.mono ?_
  rintro e w2 ⟨rfl,h,hT,hRi,hA,hK2⟩
  have hO2:=hT.own hg
  rw [sorted_is hRi hA] at hO2
  have HO2:Hid (OwnC w.heap.size w2 (.slice (some ⟨g,0,none⟩) L.length cap) (sortC L)):=hO2
  have hK:=keptC_up hK1 hK2 hg (Nat.le_refl _)
  clear hT hRi hA hK2 hO2 cS
  go_wp2_with fail
  go_ret
  exact ⟨_,rfl,HO2.out,hK⟩
theorem RowC.setP {w:World}{g n cap:Nat}{f:Nat→Ch}(h:RowC w g n cap f) {i:Nat}(hi:i < n):RowC (w.setCell ⟨g,i*3,none⟩ (.string (str (f i).p))) g n cap f:=by
 obtain ⟨h1,h2,cur,hh,hs,r⟩:=h
 refine ⟨h1,h2,_,heap_setCell_same w g (i*3) cur _ _ hh,by simpa using hs,fun k hk=>?_⟩
 obtain ⟨r0,r1,r2⟩:=r k hk
 by_cases hki:k=i
 ·subst hki
  refine ⟨?_,?_,?_⟩
  ·simp [Array.getElem?_setIfInBounds];omega
  ·rw [Array.getElem?_setIfInBounds_ne (by omega)];exact r1
  ·rw [Array.getElem?_setIfInBounds_ne (by omega)];exact r2
 ·refine ⟨?_,?_,?_⟩
  ·rw [Array.getElem?_setIfInBounds_ne (by omega)];exact r0
  ·rw [Array.getElem?_setIfInBounds_ne (by omega)];exact r1
  ·rw [Array.getElem?_setIfInBounds_ne (by omega)];exact r2
theorem sorted_call (w:World) (ao:Option Addr) (n c:Nat) (L:List Ch) (hS:SlC w ao n c L) (hnil:ao=none→c=0) (hn:n≤1000000000) (hp:∀ x∈L,x.p.length≤140737488355328) :
 Calls Tryz.prog 156 #[.slice ao n c] w fun e w'=>∃ v,e=.returned v∧OwnC w.heap.size w' v (sortC L)∧Kept [] w w':=by
 have cC:=sortedBy_call w ao n c L hS hnil hn hp
 have hl:=hS.1
 subst hl
 clear hS
 have hp':∀ x∈sortC L,x.p.length≤140737488355328:=fun x hx=>hp x (((sortC_alike L).mem x).2 hx)
 have HB:Hid (Bd (fun i=>(sortC L).getD i ⟨[],false,0⟩) (sortC L).length):=bd_list hp' _
 generalize sortC L=M at *
 clear hp hp'
 go_enter Tryz.func156,Tryz.ntmps156
 go_wp2_with fail
 refine cC.mono ?_
 rintro e w1 ⟨v,rfl,hO,hK1⟩
 clear cC
 by_cases h0:M.length=0
 ·obtain rfl:M=[]:=by simpa using h0
  obtain ⟨bo,cb,hv,_⟩:=hO.sl
  replace hv:v=.slice bo 0 cb:=hv
  subst hv
  have HO:Hid (OwnC w.heap.size w1 (.slice bo 0 cb) []):=hO
  clear hO h0
  go_wp2_with fail
  refine wp_loop_rounds 1 ?_
  rw [rounds_succ]
  go_wp2_with fail
  go_ret
  exact ⟨_,rfl,HO.out,hK1⟩
 ·obtain ⟨g,cap,rfl,hg,hR⟩:=hO.row (by omega) ⟨[],false,0⟩
  have HG:Hid (w.heap.size≤g):=hg
  obtain ⟨f,hf⟩:∃ f:Nat→Ch,f=fun i=>M.getD i ⟨[],false,0⟩:=⟨_,rfl⟩
  have HF:Hid (seg f 0 M.length=M):=by show seg f 0 M.length=M;rw [hf];exact seg_list M _
  rw [← hf] at hR HB
  have HR:Hid (RowC w1 g M.length cap f):=hR
  have hcap:=hR.le
  have hmax:=hR.max
  unfold maxLen at hmax
  obtain ⟨m,hm⟩:∃ m,m=M.length:=⟨_,rfl⟩
  rw [← hm] at HR HB HF hcap h0 ⊢
  clear hO hR hf hg hm
  go_wp2_with fail
  go_loopw [9] (fun iv wr=>∃ i:Nat,i≤m∧iv=.int .i64 i∧Hid (RowC wr g m cap f)∧Hid (Kept [] w wr)) (fun iv _=>m - (intOf iv).toNat)
  case atStart=>exact ⟨0,Nat.zero_le _,rfl,HR,hK1⟩
  case round =>
   obtain ⟨i,hi,rfl,HT,HK⟩:=hrel
   by_cases hlt:i < m
   ·have hlt':(i:Int) < m:=by omega
    have c0:=(HT.out.ch hlt).c0
    have hb:=HB.out i hlt
    have cP:=fun W=>clone_call (f i).p W hb
    have hbg:g < wr.heap.size:=HT.out.lt
    clear hb
    go_wp2_with fail
    refine (cP _).mono ?_
    rintro e w2 ⟨rfl,hK2⟩
    have HT2:Hid (RowC w2 g m cap f):=HT.out.kept hK2 (by simp)
    have c1:=(HT2.out.ch hlt).c0
    have f1:=HT2.out.froz (i*3)
    have HK2:Hid (Kept [] w w2):=HK.out.trans hK2 (by simp)
    have HT3:Hid (RowC (w2.setCell ⟨g,i*3,none⟩ (.string (str (f i).p))) g m cap f):=HT2.out.setP hlt
    clear cP c0 hK2
    go_wp2_with fail
    go_roundw
    case rel=>exact ⟨i+1,by omega,by go_num,HT3,HK2.out.setCell (.inr HG.out) _⟩
    case measure=>simp [intOf];omega
   ·have hlt':¬ (i:Int) < m:=by omega
    have HO:Hid (OwnC w.heap.size wr (.slice (some ⟨g,0,none⟩) m cap) M):=by
     have h1:=HT.out.own HG.out
     rw [HF.out] at h1
     exact h1
    go_wp2_with fail
    go_ret
    exact ⟨_,rfl,HO.out,HK.out⟩
theorem take_sameC {L M:List Ch}{k:Nat}(h:L.take k=M.take k) (h1:k < L.length) (h2:k < M.length) (h3:L[k]=M[k]):L.take (k+1)=M.take (k+1):=by
 rw [List.take_succ_eq_append_getElem h1,List.take_succ_eq_append_getElem h2,h,h3]
theorem not_sameC {L M:List Ch}{k:Nat}(h1:k < L.length) (h2:k < M.length) (h3:L[k]≠M[k]):decide (L=M)=false:=by
 rw [decide_eq_false_iff_not]
 intro e
 subst e
 exact h3 rfl
theorem ch_parts (x y:Ch):(x=y∧(str x.p).toList=(str y.p).toList∧x.g=y.g∧x.d=y.d)∨(x≠y∧((¬ (str x.p).toList=(str y.p).toList)∨((str x.p).toList=(str y.p).toList∧¬ x.g=y.g) ∨
 ((str x.p).toList=(str y.p).toList∧x.g=y.g∧¬ x.d=y.d))):=by
 have e:∀ a b:List UInt8,((str a).toList=(str b).toList↔a=b):=fun a b=>by
  rw [Go.ByteArray.toList_eq,Go.ByteArray.toList_eq,str_data,str_data]
 rw [e]
 obtain ⟨p,g,d⟩:=x
 obtain ⟨p',g',d'⟩:=y
 simp only [Ch.mk.injEq]
 by_cases h1:p=p' <;> by_cases h2:g=g' <;> by_cases h3:d=d' <;> simp [h1,h2,h3]
set_option maxRecDepth 100000 in
theorem equal_call (w:World) (ao bo:Option Addr) (n m c d:Nat) (L M:List Ch) (hL:SlC w ao n c L) (hM:SlC w bo m d M) :
 Calls Tryz.prog 160 #[.slice ao n c,.slice bo m d] w fun r w'=>r=.returned (.bool (decide (L=M)))∧∃ q,w'=w.drewN q:=by
 have hn:=hL.1
 subst hn
 have hm:=hM.1
 subst hm
 have l1:=hL.2.1
 have l2:=hL.2.2.1
 have m1:=hM.2.1
 have m2:=hM.2.2.1
 unfold maxLen at l2 m2
 by_cases hlen:L.length=M.length
 ·by_cases h0:L.length=0
  ·have e1:L=[]:=by simpa using h0
   have e2:M=[]:=by simpa [h0] using hlen.symm
   subst e1
   subst e2
   clear hL hM
   go_enter Tryz.func160,Tryz.ntmps160
   go_wp2
   refine wp_loop_rounds 1 ?_
   rw [rounds_succ]
   go_wp2
   go_ret
   exact ⟨rfl,0,rfl⟩
  ·obtain ⟨b,o,rfl,hA⟩:=hL.some (by omega)
   obtain ⟨b2,o2,rfl,hB⟩:=hM.some (by omega)
   have hi:(L.length:Int)=M.length:=by omega
   obtain ⟨R,hR⟩:∃ R,R=decide (L=M):=⟨_,rfl⟩
   rw [← hR]
   have HR:Hid (R=decide (L=M)):=hR
   have HA:Hid (∀ i (hi:i < L.length),ChAt w b (o+i*3) L[i]):=hA
   have HB:Hid (∀ i (hi:i < M.length),ChAt w b2 (o2+i*3) M[i]):=hB
   clear hL hM hA hB hR
   go_enter Tryz.func160,Tryz.ntmps160
   go_wp2_with fail
   go_loopw [13] (fun i wr=>∃ (k q:Nat),k≤L.length∧i=.int .i64 k∧wr=w.drewN q∧Hid (L.take k=M.take k)) (fun i _=>L.length - (intOf i).toNat)
   case atStart=>exact ⟨0,0,Nat.zero_le _,rfl,rfl,rfl⟩
   case round =>
    obtain ⟨k,q,hk,rfl,rfl,hT⟩:=hrel
    by_cases hlt:k < L.length
    ·obtain ⟨c0,c1,c2⟩:=HA.out k hlt
     obtain ⟨d0,d1,d2⟩:=HB.out k (by omega)
     have hlt':(k:Int) < M.length:=by omega
     have hk2:k < M.length:=by omega
     rcases ch_parts L[k] M[k] with ⟨he,e0,e1,e2⟩ | ⟨he,hne⟩
     ·have HE:Hid (L.take (k+1)=M.take (k+1)):=take_sameC hT.out hlt hk2 he
      clear he
      go_wp2_with fail
      go_region
      go_wp2_with fail
      go_roundw
      case rel=>exact ⟨k+1,q+1,by omega,by go_num,rfl,HE⟩
      case measure=>simp [intOf];omega
     ·have HE:Hid (decide (L=M)=false):=not_sameC hlt hk2 he
      clear he
      rcases hne with e0 | ⟨e0,e1⟩ | ⟨e0,e1,e2⟩
      all_goals
       go_wp2_with fail
       go_region
       go_wp2_with fail
       go_ret
       exact ⟨by rw [HR.out,HE.out];rfl,_,rfl⟩
    ·have HE:Hid (decide (L=M)=true):=by
      show decide (L=M)=true
      have h1:=hT.out
      rw [List.take_of_length_le (by omega),List.take_of_length_le (by omega)] at h1
      simpa using h1
     go_wp2_with fail
     go_ret
     exact ⟨by rw [HR.out,HE.out];rfl,_,rfl⟩
 ·have hi:¬ (L.length:Int)=M.length:=by omega
  have HE:Hid (decide (L=M)=false):=by
   show decide (L=M)=false
   rw [decide_eq_false_iff_not];intro e;exact hlen (by rw [e])
  obtain ⟨R,hR⟩:∃ R,R=decide (L=M):=⟨_,rfl⟩
  rw [← hR]
  have HR:Hid (R=decide (L=M)):=hR
  clear hL hM hR
  go_enter Tryz.func160,Tryz.ntmps160
  go_wp2_with fail
  go_ret
  exact ⟨by rw [HR.out,HE.out];rfl,0,rfl⟩
theorem same_callC (w:World) (ao bo:Option Addr) (n m c d:Nat) (L M:List Ch) (hL:SlC w ao n c L) (hM:SlC w bo m d M) :
 Calls Tryz.prog 121 #[.slice ao n c,.slice bo m d] w fun r w'=>r=.returned (.bool (decide (L=M)))∧∃ q,w'=w.drewN q:=by
 have cE:=equal_call w ao bo n m c d L M hL hM
 generalize decide (L=M)=R at cE
 clear hL hM
 go_enter Tryz.func121,Tryz.ntmps121
 go_wp2_with fail
 refine cE.mono ?_
 rintro e w1 ⟨rfl,q,rfl⟩
 go_wp2_with fail
 go_ret
 exact ⟨rfl,q,rfl⟩
theorem str_eqC (p q:List UInt8):((str p).toList==(str q).toList)=decide (p=q):=by
 rw [Go.ByteArray.toList_eq,Go.ByteArray.toList_eq,str_data,str_data]
 by_cases h:p=q <;> simp [h]
theorem SlC.take {w:World}{ao:Option Addr}{n c:Nat}{L:List Ch}(h:SlC w ao n c L) {k:Nat}(hk:k≤n):SlC w ao k c (L.take k):=by
 refine ⟨by rw [List.length_take,h.1];omega,by have:=h.2.1;omega,h.2.2.1,fun i hi=>?_⟩
 rw [List.length_take] at hi
 obtain ⟨b,o,e,h1⟩:=h.2.2.2 i (by omega)
 exact ⟨b,o,e,by rw [List.getElem_take];exact h1⟩
theorem has1_call (w:World) (b:Nat) (p:List UInt8) (x:Ch) (hp:w.cell? ⟨b,0,none⟩=some (.string (str p))) :
 Calls Tryz.prog 189 #[.agg #[.string (str x.p),.bool x.g,.int .u64 x.d],.pointer (some ⟨b,0,none⟩)] w fun e w'=>e=.returned (.bool (decide (x.p=p)))∧Kept [] w w':=by
 have hK:=(Kept.refl [] w).alloc (.cells #[.string (str x.p),.bool x.g,.int .u64 x.d] 116)
 have hp':=hK.cell hp (by simp)
 have he:=str_eqC x.p p
 generalize decide (x.p=p)=R at he
 clear hp
 go_enter Tryz.func189,Tryz.ntmps189
 go_wp2_with fail
 go_ret
 exact ⟨rfl,hK⟩
theorem idx_call (w:World) (b:Nat) (ao:Option Addr) (n c:Nat) (L:List Ch) (p:List UInt8) (hp:w.cell? ⟨b,0,none⟩=some (.string (str p))) (hS:SlC w ao n c L) :
 Calls Tryz.prog 199 #[.slice ao n c,.func (.func 189) #[] #[.pointer (some ⟨b,0,none⟩)]] w fun e w'=>∃ z:Int,e=.returned (.int .i64 z)∧(0≤z↔∃ x∈L,x.p=p)∧Kept [] w w':=by
 have hl:=hS.1
 subst hl
 have hc:=hS.2.1
 have hm:=hS.2.2.1
 unfold maxLen at hm
 have HS:Hid (SlC w ao L.length c L):=hS
 have HP:Hid (w.cell? ⟨b,0,none⟩=some (.string (str p))):=hp
 clear hS hp
 go_enter Tryz.func199,Tryz.ntmps199
 go_wp2_with fail
 go_loopw [8] (fun iv wr=>∃ k:Nat,k≤L.length∧iv=.int .i64 k∧Hid (Kept [] w wr)∧Hid (∀ i (hi:i < L.length),i < k→L[i].p≠p)) (fun iv _=>L.length - (intOf iv).toNat)
 case atStart=>exact ⟨0,Nat.zero_le _,rfl,Kept.refl _ _,fun i _ h=>by omega⟩
 case round =>
  obtain ⟨k,hk,rfl,HK,HN⟩:=hrel
  by_cases hlt:k < L.length
  ·obtain ⟨g,o,hao,hx⟩:=HS.out.2.2.2 k hlt
   subst hao
   obtain ⟨c0,c1,c2⟩:=hx.kept HK.out (by simp)
   have c1':=fun w' (h:Kept [] w w')=>has1_call w' b p L[k] (h.cell HP.out (by simp))
   have hlt':(k:Int) < L.length:=by omega
   obtain ⟨x,hxe⟩:∃ x,x=L[k]:=⟨_,rfl⟩
   have HX:Hid (x=L[k]):=hxe
   rw [← hxe] at c0 c1 c2 c1'
   clear hx hxe
   by_cases he:x.p=p
   ·rw [decide_eq_true he] at c1'
    have HE:Hid (x.p=p):=he
    clear he
    go_wp2_with fail
    refine (c1' _ HK.out).mono ?_
    rintro e w2 ⟨rfl,hK2⟩
    clear c1'
    go_wp2_with fail
    go_ret
    refine ⟨k,rfl,⟨fun _=>⟨x,?_,HE.out⟩,fun _=>by omega⟩,HK.out.trans hK2 (by simp)⟩
    rw [HX.out];exact List.getElem_mem hlt
   ·rw [decide_eq_false he] at c1'
    have HE:Hid (x.p≠p):=he
    clear he
    go_wp2_with fail
    refine (c1' _ HK.out).mono ?_
    rintro e w2 ⟨rfl,hK2⟩
    have HK2:Hid (Kept [] w w2):=HK.out.trans hK2 (by simp)
    clear c1' hK2
    go_wp2_with fail
    go_roundw
    case rel =>
     refine ⟨k+1,by omega,by go_num,HK2,fun i hi h=>?_⟩
     by_cases e:i=k
     ·subst e;rw [← HX.out];exact HE.out
     ·exact HN.out i hi (by omega)
    case measure=>simp [intOf];omega
  ·have hlt':¬ (k:Int) < L.length:=by omega
   go_wp2_with fail
   go_ret
   refine ⟨-1,rfl,⟨fun h=>by omega,fun ⟨x,hx,he⟩=>?_⟩,HK.out⟩
   obtain ⟨i,hi,rfl⟩:=List.getElem_of_mem hx
   exact absurd he (HN.out i hi (by omega))
theorem contains_call (w:World) (b:Nat) (ao:Option Addr) (n c:Nat) (L:List Ch) (p:List UInt8) (hp:w.cell? ⟨b,0,none⟩=some (.string (str p))) (hS:SlC w ao n c L) :
 Calls Tryz.prog 188 #[.slice ao n c,.func (.func 189) #[] #[.pointer (some ⟨b,0,none⟩)]] w fun e w'=>e=.returned (.bool (L.any fun x=>decide (x.p=p)))∧Kept [] w w':=by
 have cI:=idx_call w b ao n c L p hp hS
 have hA:∀ z:Int,(0≤z↔∃ x∈L,x.p=p)→decide (0≤z)=L.any fun x=>decide (x.p=p):=fun z hz=>by
  rw [Bool.eq_iff_iff];simp [hz]
 generalize (L.any fun x=>decide (x.p=p))=R at hA ⊢
 have HA:Hid (∀ z:Int,(0≤z↔∃ x∈L,x.p=p)→decide (0≤z)=R):=hA
 clear hS hp hA
 go_enter Tryz.func188,Tryz.ntmps188
 go_wp2_with fail
 refine cI.mono ?_
 rintro e w2 ⟨z,rfl,hz,hK⟩
 have HE:Hid (decide (0≤z)=R):=HA.out z hz
 clear hz cI
 go_wp2_with fail
 go_ret
 exact ⟨by rw [← HE.out];rfl,hK⟩
theorem hasC_call (w:World) (ao:Option Addr) (n c:Nat) (L:List Ch) (p:List UInt8) (hS:SlC w ao n c L) :
 Calls Tryz.prog 178 #[.slice ao n c,.string (str p)] w fun e w'=>e=.returned (.bool (L.any fun x=>decide (x.p=p)))∧Kept [] w w':=by
 have hK:=(Kept.refl [] w).alloc (.cells #[.string (str p)] 9)
 have h0:(w.alloc (.cells #[.string (str p)] 9)).cell? ⟨w.heap.size,0,none⟩=some (.string (str p)) :=
  cell_inC (heap_alloc_new w (.cells #[.string (str p)] 9)) rfl
 have cC:=contains_call _ w.heap.size ao n c L p h0 (hS.kept hK (by simp))
 generalize (L.any fun x=>decide (x.p=p))=R at cC ⊢
 clear hS h0
 go_enter Tryz.func178,Tryz.ntmps178
 go_wp2_with fail
 refine cC.mono ?_
 rintro e w2 ⟨rfl,hK2⟩
 go_wp2_with fail
 go_ret
 exact ⟨rfl,hK.trans hK2 (by simp)⟩
theorem box3 (w:World) (x:Ch) (t:TypeId):ChAt (w.alloc (.cells #[.string (str x.p),.bool x.g,.int .u64 x.d] t)) w.heap.size 0 x:=by
 have h:=heap_alloc_new w (.cells #[.string (str x.p),.bool x.g,.int .u64 x.d] t)
 exact ⟨cell_inC h rfl,cell_inC h rfl,cell_inC h rfl⟩
theorem may_call (w:World) (x:Ch) (hx:x.p.length≤1000000000000) :
 Calls Tryz.prog 177 #[.agg #[.string (str x.p),.bool x.g,.int .u64 x.d]] w fun e w'=>e=.returned (.bool (mayB x))∧Kept [] w w':=by
 have hK:=(Kept.refl [] w).alloc (.cells #[.string (str x.p),.bool x.g,.int .u64 x.d] 116)
 have hB:=box3 w x 116
 have cN:=fun W=>normal_call x.p W hx
 have hm:mayB x=(decide (normB x.p=some x.p) && !(x.g && !(x.d==0))):=rfl
 rcases hn:normB x.p with _ | q
 ·rw [hn] at cN hm
  have hm2:mayB x=false:=by rw [hm];simp
  rw [hm2]
  clear hm hm2 hn
  replace cN:∀ W,Calls Tryz.prog 187 #[.string (str x.p)] W fun e w'=>e=.returned (.tuple #[.string ByteArray.empty,.bool false])∧Kept [] W w':=cN
  go_enter Tryz.func177,Tryz.ntmps177
  go_wp2_with fail
  refine (cN _).mono ?_
  rintro e w2 ⟨rfl,hK2⟩
  obtain ⟨c0,c1,c2⟩:=hB.kept hK2 (by simp)
  rw [Nat.zero_add] at c1 c2
  have hKw:=hK.trans hK2 (by simp)
  clear hB hK hK2 cN
  go_wp2_with fail
  go_ret
  exact ⟨rfl,hKw⟩
 ·rw [hn] at cN hm
  replace cN:∀ W,Calls Tryz.prog 187 #[.string (str x.p)] W fun e w'=>e=.returned (.tuple #[.string (str q),.bool true])∧Kept [] W w':=cN
  have he:=str_eqC q x.p
  have hm2:mayB x=(decide (q=x.p) && !(x.g && !(x.d==0))):=by rw [hm];simp
  rw [hm2]
  clear hm hm2 hn
  generalize decide (q=x.p)=r at he ⊢
  obtain ⟨xp,xg,xd⟩:=x
  simp only at *
  cases r <;> cases xg <;> (
   go_enter Tryz.func177,Tryz.ntmps177
   go_wp2_with fail
   refine (cN _).mono ?_
   rintro e w2 ⟨rfl,hK2⟩
   obtain ⟨c0,c1,c2⟩:=hB.kept hK2 (by simp)
   rw [Nat.zero_add] at c1 c2
   have hKw:=hK.trans hK2 (by simp)
   clear hB hK hK2 cN
   go_wp2_with fail
   go_ret
   exact ⟨rfl,hKw⟩)
theorem any_take {L:List Ch}{k:Nat}{p:List UInt8}:((L.take k).any fun x=>decide (x.p=p))=false→∀ i (hi:i < L.length),i < k→L[i].p≠p:=by
 intro h i hi hk e
 rw [List.any_eq_false] at h
 have h2:i < (L.take k).length:=by rw [List.length_take];omega
 have h1:=h (L.take k)[i] (List.getElem_mem h2)
 rw [List.getElem_take] at h1
 simp [e] at h1
theorem take_any {L:List Ch}{k:Nat}{p:List UInt8}:((L.take k).any fun x=>decide (x.p=p))=true→∃ i,∃ (hi:i < L.length),i < k∧L[i].p=p:=by
 intro h
 rw [List.any_eq_true] at h
 obtain ⟨x,hx,he⟩:=h
 obtain ⟨i,hi,rfl⟩:=List.getElem_of_mem hx
 rw [List.length_take] at hi
 refine ⟨i,by omega,by omega,?_⟩
 rw [List.getElem_take] at he
 simpa using he
theorem check_call (w:World) (ao:Option Addr) (n c:Nat) (L:List Ch) (hS:SlC w ao n c L) (hp:∀ x∈L,x.p.length≤1000000000000) :
 Calls Tryz.prog 169 #[.slice ao n c] w fun e w'=>e=.returned (.int .i64 (errC L))∧Kept [] w w':=by
 have hl:=hS.1
 subst hl
 have hc:=hS.2.1
 have hm:=hS.2.2.1
 unfold maxLen at hm
 by_cases h0:L.length=0
 ·rw [errC_bad (fun h=>by have:=h.1;omega)]
  have h0':((L.length:Int)==0)=true:=by simp [h0]
  clear hS
  go_enter Tryz.func169,Tryz.ntmps169
  go_wp2_with fail
  go_ret
  exact ⟨rfl,Kept.refl _ _⟩
 have h0':((L.length:Int)==0)=false:=by simp [h0]
 by_cases h1:16 < L.length
 ·rw [errC_bad (fun h=>by have:=h.2.1;omega)]
  have h1':(16:Int) < L.length:=by omega
  clear hS
  go_enter Tryz.func169,Tryz.ntmps169
  go_wp2_with fail
  go_ret
  exact ⟨rfl,Kept.refl _ _⟩
 have h1':¬ (16:Int) < L.length:=by omega
 obtain ⟨b,o,hao,_⟩:=hS.some (by omega)
 subst hao
 have HS:Hid (SlC w (some ⟨b,o,none⟩) L.length c L):=hS
 have HP:Hid (∀ x∈L,x.p.length≤1000000000000):=hp
 obtain ⟨R,hR⟩:∃ R,R=errC L:=⟨_,rfl⟩
 rw [← hR]
 have HR:Hid (R=errC L):=hR
 clear hS hp hR
 go_enter Tryz.func169,Tryz.ntmps169
 go_wp2_with fail
 go_loopw [15] (fun iv wr=>∃ k:Nat,k≤L.length∧iv=.int .i64 k∧Hid (Kept [] w wr)∧Hid (∀ i (hi:i < L.length),i < k→mayB L[i]=true∧∀ j (hj:j < i),L[j].p≠L[i].p)) (fun iv _=>L.length - (intOf iv).toNat)
 case atStart=>exact ⟨0,Nat.zero_le _,rfl,Kept.refl _ _,fun i _ h=>by omega⟩
 case round =>
  obtain ⟨k,hk,rfl,HK,HN⟩:=hrel
  by_cases hlt:k < L.length
  ·have hlt':(k:Int) < L.length:=by omega
   have hkc:k≤c:=by omega
   obtain ⟨g',o',hao,hx⟩:=HS.out.2.2.2 k hlt
   obtain ⟨rfl,rfl⟩:b=g'∧o=o':=by simpa using hao
   obtain ⟨c0,c1,c2⟩:=hx.kept HK.out (by simp)
   obtain ⟨x,hxe⟩:∃ x,x=L[k]:=⟨_,rfl⟩
   have HX:Hid (x=L[k]):=hxe
   rw [← hxe] at c0 c1 c2
   have hKa:=(Kept.refl [] wr).alloc (.cells #[.string (str x.p),.bool x.g,.int .u64 x.d] 116)
   obtain ⟨d0,d1,d2⟩:=box3 wr x 116
   rw [Nat.zero_add] at d1 d2
   have hxp:x.p.length≤1000000000000:=by rw [hxe];exact HP.out _ (List.getElem_mem hlt)
   have cM:=fun W=>may_call W x hxp
   have cH:=fun W (h:Kept [] wr W)=>hasC_call W (some ⟨b,o,none⟩) k c (L.take k) x.p (((HS.out.kept HK.out (by simp)).kept h (by simp)).take hk)
   clear hx hxe hao hxp
   rcases hma:mayB x with _ | _
   ·have HE:Hid (R=1):=by
     show R=1
     rw [HR.out]
     exact errC_bad fun h=>by have:=(h.2.2 k hlt).1;rw [← HX.out,hma] at this;cases this
    rw [hma] at cM
    clear hma cH
    go_wp2_with fail
    first
     | go_region_with (go_at_call 177;refine (cM _).mono ?_;rintro e w1 ⟨rfl,hKb⟩;have HK1:Hid (Kept [] w w1):=(HK.out.trans hKa (by simp)).trans ((Kept.refl [] _).drew.trans hKb (by simp)) (by simp))
     | fail
    all_goals
     go_wp2_with fail
     go_ret
     exact ⟨by rw [HE.out];rfl,HK1.out⟩
   ·rw [hma] at cM
    rcases hha:((L.take k).any fun y=>decide (y.p=x.p)) with _ | _
    ·have HE:Hid (∀ i (hi:i < L.length),i < k+1→mayB L[i]=true∧∀ j (hj:j < i),L[j].p≠L[i].p):=fun i hi h=>by
      by_cases e:i=k
      ·subst e
       refine ⟨by rw [← HX.out];exact hma,fun j hj=>?_⟩
       rw [← HX.out]
       exact any_take hha j (by omega) hj
      ·exact HN.out i hi (by omega)
     rw [hha] at cH
     clear hma hha
     go_wp2_with fail
     go_region_held3 (fun w'=>w'.cell? ⟨wr.heap.size,0,none⟩=some (.string (str x.p))∧w'.cell? ⟨wr.heap.size,1,none⟩=some (.bool x.g)∧w'.cell? ⟨wr.heap.size,2,none⟩=some (.int .u64 x.d))
      (first | go_keep | exact ⟨hK1.cell d0 (by simp),hK1.cell d1 (by simp),hK1.cell d2 (by simp)⟩)
      (first
        | (go_at_call 177;refine (cM _).mono ?_;rintro e w1 ⟨rfl,hKb⟩;have hK1:Kept [] (wr.alloc (.cells #[.string (str x.p),.bool x.g,.int .u64 x.d] 116)) w1:=(Kept.refl [] _).drew.trans hKb (by simp))
        | (go_at_call 178;refine (cH _ ?_).mono ?_;exact hKa.trans hK1 (by simp);rintro e w2 ⟨rfl,hKc⟩;replace hK1:=hK1.trans hKc (by simp)))
     have HK1:Hid (Kept [] w w2):=(HK.out.trans hKa (by simp)).trans hK1 (by simp)
     clear hKa hKb hKc hK1 c0 c1 c2 d0 d1 d2 cM cH
     go_wp2_with fail
     go_roundw
     case rel=>exact ⟨k+1,by omega,by go_num,HK1,HE⟩
     case measure=>simp [intOf];omega
    ·have HE:Hid (R=1):=by
      show R=1
      rw [HR.out]
      refine errC_bad fun h=>?_
      obtain ⟨i,hi,hik,e⟩:=take_any hha
      rw [HX.out] at e
      exact (h.2.2 k hlt).2 i hik e
     rw [hha] at cH
     clear hma hha
     go_wp2_with fail
     go_region_held3 (fun w'=>w'.cell? ⟨wr.heap.size,0,none⟩=some (.string (str x.p))∧w'.cell? ⟨wr.heap.size,1,none⟩=some (.bool x.g)∧w'.cell? ⟨wr.heap.size,2,none⟩=some (.int .u64 x.d))
      (first | go_keep | exact ⟨hK1.cell d0 (by simp),hK1.cell d1 (by simp),hK1.cell d2 (by simp)⟩)
      (first
        | (go_at_call 177;refine (cM _).mono ?_;rintro e w1 ⟨rfl,hKb⟩;have hK1:Kept [] (wr.alloc (.cells #[.string (str x.p),.bool x.g,.int .u64 x.d] 116)) w1:=(Kept.refl [] _).drew.trans hKb (by simp))
        | (go_at_call 178;refine (cH _ ?_).mono ?_;exact hKa.trans hK1 (by simp);rintro e w2 ⟨rfl,hKc⟩;replace hK1:=hK1.trans hKc (by simp)))
     have HK1:Hid (Kept [] w w2):=(HK.out.trans hKa (by simp)).trans hK1 (by simp)
     clear hKa hKb hKc hK1 c0 c1 c2 d0 d1 d2 cM cH
     go_wp2_with fail
     go_ret
     exact ⟨by rw [HE.out];rfl,HK1.out⟩
  ·have hlt':¬ (k:Int) < L.length:=by omega
   have HE:Hid (R=0):=by
    show R=0
    rw [HR.out]
    exact errC_ok ⟨by omega,by omega,fun i hi=>HN.out i hi (by omega)⟩
   go_wp2_with fail
   go_ret
   exact ⟨by rw [HE.out];rfl,HK.out⟩
end Go.Proofs.YtddhmfildfdbdaaGreat
