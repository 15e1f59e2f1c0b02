/-
  Texts of this claim that are laid as one: ChSame, CoSame, EnSm0.
-/
import Derived.Test.YtakafmejllilnaaGreatF2
import Derived.Test.YtakafmejllilnaaGreatF1
import Derived.Deep.RegionHeld3
/-
 change.Same,the document's own Same;few and small.
-/
namespace Go.Proofs.YtakafmejllilnaaGreat
open Go.RowKit
theorem take_sameC {L M:List Ch}{k:Nat}(h:L.take k=M.take k) (h1:k < L.length) (h2:k < M.length) (h3:L[k]=M[k]):L.take (k+1)=M.take (k+1):=by
 rw [List.take_succ_eq_append_getElem h1,List.take_succ_eq_append_getElem h2,h,h3]
theorem not_sameC {L M:List Ch}{k:Nat}(h1:k < L.length) (h2:k < M.length) (h3:L[k]≠M[k]):decide (L=M)=false:=by
 rw [decide_eq_false_iff_not]
 intro e
 subst e
 exact h3 rfl
theorem ch_parts (x y:Ch):(x=y∧(str x.p).toList=(str y.p).toList∧x.g=y.g∧x.d=y.d)∨(x≠y∧((¬ (str x.p).toList=(str y.p).toList)∨((str x.p).toList=(str y.p).toList∧¬ x.g=y.g) ∨
 ((str x.p).toList=(str y.p).toList∧x.g=y.g∧¬ x.d=y.d))):=by
 have e:∀ a b:List UInt8,((str a).toList=(str b).toList↔a=b):=fun a b=>by
  rw [Go.ByteArray.toList_eq,Go.ByteArray.toList_eq,str_data,str_data]
 rw [e]
 obtain ⟨p,g,d⟩:=x
 obtain ⟨p',g',d'⟩:=y
 simp only [Ch.mk.injEq]
 by_cases h1:p=p' <;> by_cases h2:g=g' <;> by_cases h3:d=d' <;> simp [h1,h2,h3]
set_option maxHeartbeats 2000000 in
set_option maxRecDepth 100000 in
theorem rsame_call (w:World) (ao bo:Option Addr) (n m c d:Nat) (L M:List Ch) (hL:SlC w ao n c L) (hM:SlC w bo m d M) :
 Calls Tryz.prog 85 #[.slice ao n c,.slice bo m d] w fun r w'=>r=.returned (.bool (decide (L=M)))∧∃ q,w'=w.drewN q:=by
 have hn:=hL.1
 subst hn
 have hm:=hM.1
 subst hm
 have l1:=hL.2.1
 have l2:=hL.2.2.1
 have m1:=hM.2.1
 have m2:=hM.2.2.1
 unfold maxLen at l2 m2
 by_cases hlen:L.length=M.length
 ·by_cases h0:L.length=0
  ·have e1:L=[]:=by simpa using h0
   have e2:M=[]:=by simpa [h0] using hlen.symm
   subst e1
   subst e2
   clear hL hM
   go_enter Tryz.func85,Tryz.ntmps85
   go_wp2
   refine wp_loop_rounds 1 ?_
   rw [rounds_succ]
   go_wp2
   go_ret
   exact ⟨rfl,0,rfl⟩
  ·obtain ⟨b,o,rfl,hA⟩:=hL.some (by omega)
   obtain ⟨b2,o2,rfl,hB⟩:=hM.some (by omega)
   have hi:(L.length:Int)=M.length:=by omega
   obtain ⟨R,hR⟩:∃ R,R=decide (L=M):=⟨_,rfl⟩
   rw [← hR]
   have HR:Hid (R=decide (L=M)):=hR
   have HA:Hid (∀ i (hi:i < L.length),ChAt w b (o+i*3) L[i]):=hA
   have HB:Hid (∀ i (hi:i < M.length),ChAt w b2 (o2+i*3) M[i]):=hB
   clear hL hM hA hB hR
   go_enter Tryz.func85,Tryz.ntmps85
   go_wp2_with fail
   go_loopw [5] (fun i wr=>∃ (k q:Nat),k≤L.length∧i=.int .i64 k∧wr=w.drewN q∧Hid (L.take k=M.take k)) (fun i _=>L.length - (intOf i).toNat)
   case atStart=>exact ⟨0,0,Nat.zero_le _,rfl,rfl,rfl⟩
   case round =>
    obtain ⟨k,q,hk,rfl,rfl,hT⟩:=hrel
    by_cases hlt:k < L.length
    ·obtain ⟨c0,c1,c2⟩:=HA.out k hlt
     obtain ⟨d0,d1,d2⟩:=HB.out k (by omega)
     have hlt':(k:Int) < M.length:=by omega
     have hk2:k < M.length:=by omega
     rcases ch_parts L[k] M[k] with ⟨he,e0,e1,e2⟩ | ⟨he,hne⟩
     ·have HE:Hid (L.take (k+1)=M.take (k+1)):=take_sameC hT.out hlt hk2 he
      clear he
      go_wp2_with fail
      go_region
      go_wp2_with fail
      go_roundw
      case rel=>exact ⟨k+1,q+1,by omega,by go_num,rfl,HE⟩
      case measure=>simp [intOf];omega
     ·have HE:Hid (decide (L=M)=false):=not_sameC hlt hk2 he
      clear he
      rcases hne with e0 | ⟨e0,e1⟩ | ⟨e0,e1,e2⟩
      all_goals
       go_wp2_with fail
       go_region
       go_wp2_with fail
       go_ret
       exact ⟨by rw [HR.out,HE.out];rfl,_,rfl⟩
    ·have HE:Hid (decide (L=M)=true):=by
      show decide (L=M)=true
      have h1:=hT.out
      rw [List.take_of_length_le (by omega),List.take_of_length_le (by omega)] at h1
      simpa using h1
     go_wp2_with fail
     go_ret
     exact ⟨by rw [HR.out,HE.out];rfl,_,rfl⟩
 ·have hi:¬ (L.length:Int)=M.length:=by omega
  have HE:Hid (decide (L=M)=false):=by
   show decide (L=M)=false
   rw [decide_eq_false_iff_not];intro e;exact hlen (by rw [e])
  obtain ⟨R,hR⟩:∃ R,R=decide (L=M):=⟨_,rfl⟩
  rw [← hR]
  have HR:Hid (R=decide (L=M)):=hR
  clear hL hM hR
  go_enter Tryz.func85,Tryz.ntmps85
  go_wp2_with fail
  go_ret
  exact ⟨by rw [HR.out,HE.out];rfl,0,rfl⟩
set_option maxHeartbeats 2000000 in
set_option maxRecDepth 100000 in
theorem equal_call (w:World) (ao bo:Option Addr) (n m c d:Nat) (L M:List Ch) (hL:SlC w ao n c L) (hM:SlC w bo m d M) :
 Calls Tryz.prog 98 #[.slice ao n c,.slice bo m d] w fun r w'=>r=.returned (.bool (decide (L=M)))∧∃ q,w'=w.drewN q:=by
 have hn:=hL.1
 subst hn
 have hm:=hM.1
 subst hm
 have l1:=hL.2.1
 have l2:=hL.2.2.1
 have m1:=hM.2.1
 have m2:=hM.2.2.1
 unfold maxLen at l2 m2
 by_cases hlen:L.length=M.length
 ·by_cases h0:L.length=0
  ·have e1:L=[]:=by simpa using h0
   have e2:M=[]:=by simpa [h0] using hlen.symm
   subst e1
   subst e2
   clear hL hM
   go_enter Tryz.func98,Tryz.ntmps98
   go_wp2
   refine wp_loop_rounds 1 ?_
   rw [rounds_succ]
   go_wp2
   go_ret
   exact ⟨rfl,0,rfl⟩
  ·obtain ⟨b,o,rfl,hA⟩:=hL.some (by omega)
   obtain ⟨b2,o2,rfl,hB⟩:=hM.some (by omega)
   have hi:(L.length:Int)=M.length:=by omega
   obtain ⟨R,hR⟩:∃ R,R=decide (L=M):=⟨_,rfl⟩
   rw [← hR]
   have HR:Hid (R=decide (L=M)):=hR
   have HA:Hid (∀ i (hi:i < L.length),ChAt w b (o+i*3) L[i]):=hA
   have HB:Hid (∀ i (hi:i < M.length),ChAt w b2 (o2+i*3) M[i]):=hB
   clear hL hM hA hB hR
   go_enter Tryz.func98,Tryz.ntmps98
   go_wp2_with fail
   go_loopw [13] (fun i wr=>∃ (k q:Nat),k≤L.length∧i=.int .i64 k∧wr=w.drewN q∧Hid (L.take k=M.take k)) (fun i _=>L.length - (intOf i).toNat)
   case atStart=>exact ⟨0,0,Nat.zero_le _,rfl,rfl,rfl⟩
   case round =>
    obtain ⟨k,q,hk,rfl,rfl,hT⟩:=hrel
    by_cases hlt:k < L.length
    ·obtain ⟨c0,c1,c2⟩:=HA.out k hlt
     obtain ⟨d0,d1,d2⟩:=HB.out k (by omega)
     have hlt':(k:Int) < M.length:=by omega
     have hk2:k < M.length:=by omega
     rcases ch_parts L[k] M[k] with ⟨he,e0,e1,e2⟩ | ⟨he,hne⟩
     ·have HE:Hid (L.take (k+1)=M.take (k+1)):=take_sameC hT.out hlt hk2 he
      clear he
      go_wp2_with fail
      go_region
      go_wp2_with fail
      go_roundw
      case rel=>exact ⟨k+1,q+1,by omega,by go_num,rfl,HE⟩
      case measure=>simp [intOf];omega
     ·have HE:Hid (decide (L=M)=false):=not_sameC hlt hk2 he
      clear he
      rcases hne with e0 | ⟨e0,e1⟩ | ⟨e0,e1,e2⟩
      all_goals
       go_wp2_with fail
       go_region
       go_wp2_with fail
       go_ret
       exact ⟨by rw [HR.out,HE.out];rfl,_,rfl⟩
    ·have HE:Hid (decide (L=M)=true):=by
      show decide (L=M)=true
      have h1:=hT.out
      rw [List.take_of_length_le (by omega),List.take_of_length_le (by omega)] at h1
      simpa using h1
     go_wp2_with fail
     go_ret
     exact ⟨by rw [HR.out,HE.out];rfl,_,rfl⟩
 ·have hi:¬ (L.length:Int)=M.length:=by omega
  have HE:Hid (decide (L=M)=false):=by
   show decide (L=M)=false
   rw [decide_eq_false_iff_not];intro e;exact hlen (by rw [e])
  obtain ⟨R,hR⟩:∃ R,R=decide (L=M):=⟨_,rfl⟩
  rw [← hR]
  have HR:Hid (R=decide (L=M)):=hR
  clear hL hM hR
  go_enter Tryz.func98,Tryz.ntmps98
  go_wp2_with fail
  go_ret
  exact ⟨by rw [HR.out,HE.out];rfl,0,rfl⟩
theorem rsame_kept (w:World) (ao bo:Option Addr) (n m c d:Nat) (L M:List Ch) (hL:SlC w ao n c L) (hM:SlC w bo m d M) :
 Calls Tryz.prog 85 #[.slice ao n c,.slice bo m d] w fun r w'=>r=.returned (.bool (decide (L=M)))∧Kept [] w w' :=
 (rsame_call w ao bo n m c d L M hL hM).mono fun _ _ ⟨h1,q,h2⟩=>⟨h1,by rw [h2];exact drewN_kept w q⟩
def roomyC (L:List Ch):Bool:=decide (L.length≤300) && L.all fun x=>decide (x.p.length≤300)
theorem not_roomyC {L:List Ch}{k:Nat}(hk:k < L.length) (h:300 < L[k].p.length):roomyC L=false:=by
 unfold roomyC
 have h1:(L.all fun x=>decide (x.p.length≤300))=false:=by
  rw [List.all_eq_false]
  exact ⟨L[k],List.getElem_mem hk,by simp;omega⟩
 rw [h1];simp
theorem roomyC_iff {L:List Ch}:roomyC L=true↔L.length≤300∧∀ x∈L,x.p.length≤300:=by
 unfold roomyC;simp
set_option maxHeartbeats 2000000 in
theorem samec_call (w:World) (x:Com) (ao bo:Option Addr) (n m c d:Nat) (h1:SlC w ao n c x.c) (h2:SlC w bo m d x.c) :
 Calls Tryz.prog 102 #[.agg #[.int .i64 x.r,.int .i64 x.b,.string (str x.n),.slice ao n c],.agg #[.int .i64 x.r,.int .i64 x.b,.string (str x.n),.slice bo m d]] w fun e w'=>e=.returned (.bool true)∧Kept [] w w':=by
 have hKa:Kept [] w ((w.alloc (.cells #[.int .i64 x.r,.int .i64 x.b,.string (str x.n),.slice ao n c] 108)).alloc (.cells #[.int .i64 x.r,.int .i64 x.b,.string (str x.n),.slice bo m d] 108)):=((Kept.refl [] w).alloc _).alloc _
 have cS:=rsame_kept _ ao bo n m c d x.c x.c (h1.kept hKa (by simp)) (h2.kept hKa (by simp))
 rw [decide_eq_true rfl] at cS
 clear h1 h2
 go_enter Tryz.func102,Tryz.ntmps102
 go_wp2_with fail
 refine cS.mono ?_
 rintro _ w1 ⟨rfl,hK⟩
 go_wp2_with fail
 go_ret
 exact ⟨rfl,hKa.trans hK (by simp)⟩
def ScI (w:World) (n:Nat) (iv:Value) (wr:World):Prop:=∃ i:Nat,iv=.int .i64 (i:Int)∧i≤n∧Hid (Kept [] w wr)
set_option maxHeartbeats 4000000 in
set_option maxRecDepth 100000 in
theorem samecs_call (w:World) (ao bo:Option Addr) (n m c d:Nat) (K M:List (Com × Value)) (hK:SlK w ao n c K) (hM:SlK w bo m d M) (he:K.map Prod.fst=M.map Prod.fst) :
 Calls Tryz.prog 86 #[.slice ao n c,.slice bo m d] w fun e w'=>e=.returned (.bool true)∧Kept [] w w':=by
 have hl:=hK.1
 have hl2:=hM.1
 have hnm:n=m:=by have:=congrArg List.length he;simp at this;omega
 subst hnm
 have HLK:Hid (K.length=n):=hl
 have HLM:Hid (M.length=n):=hl2
 have hc:=hK.2.1
 have hm:=hK.2.2.1
 have hd:=hM.2.1
 have hm2:=hM.2.2.1
 unfold maxLen at hm hm2
 have HK:Hid (SlK w ao n c K):=hK
 have HM:Hid (SlK w bo n d M):=hM
 have HE:Hid (K.map Prod.fst=M.map Prod.fst):=he
 clear hl hl2 hK hM he
 go_enter Tryz.func86,Tryz.ntmps86
 go_wp2_with fail
 go_loopw [5] (fun iv wr=>ScI w n iv wr) (fun iv _=>n - (intOf iv).toNat)
 case atStart=>exact ⟨0,rfl,Nat.zero_le _,Kept.refl _ _⟩
 case round =>
  obtain ⟨i,rfl,hi,HW⟩:=hrel
  by_cases hlt:i < n
  ·have hlt':(i:Int) < n:=by omega
   have hic:i≤c:=by omega
   have hid:i≤d:=by omega
   have hiK:i < K.length:=by rw [HLK.out];exact hlt
   have hiM:i < M.length:=by rw [HLM.out];exact hlt
   have hxy:M[i].1=K[i].1:=by
    have h1:(K.map Prod.fst)[i]'(by simpa using hiK)=(M.map Prod.fst)[i]'(by simpa using hiM):=by simp only [HE.out]
    simpa using h1.symm
   obtain ⟨g,o,rfl,hx⟩:=HK.out.2.2.2.1 i hiK
   obtain ⟨g2,o2,rfl,hy⟩:=HM.out.2.2.2.1 i hiM
   obtain ⟨mo,mm,mc,e1,hs1,_⟩:=HK.out.2.2.2.2 _ (List.getElem_mem hiK)
   obtain ⟨mo2,mm2,mc2,e2,hs2,_⟩:=HM.out.2.2.2.2 _ (List.getElem_mem hiM)
   obtain ⟨x0,x1,x2,x3⟩:=hx.kept HW.out (by simp)
   obtain ⟨y0,y1,y2,y3⟩:=hy.kept HW.out (by simp)
   rw [e1] at x3
   rw [e2] at y3
   rw [hxy] at y0 y1 y2 hs2
   have cS:=fun W (hk:Kept [] wr W)=>samec_call W K[i].1 mo mo2 mm mm2 mc mc2 ((hs1.kept HW.out (by simp)).kept hk (by simp)) ((hs2.kept HW.out (by simp)).kept hk (by simp))
   generalize K[i].1=x at *
   clear hx hy hs1 hs2 hxy e1 e2
   go_wp2_with fail
   go_region_held3 (fun w'=>(w'.cell? ⟨g,o+i*4,none⟩=some (.int .i64 x.r)∧w'.cell? ⟨g,o+i*4+1,none⟩=some (.int .i64 x.b)∧w'.cell? ⟨g,o+i*4+2,none⟩=some (.string (str x.n))∧w'.cell? ⟨g,o+i*4+3,none⟩=some (.slice mo mm mc))∧w'.cell? ⟨g2,o2+i*4,none⟩=some (.int .i64 x.r)∧w'.cell? ⟨g2,o2+i*4+1,none⟩=some (.int .i64 x.b)∧w'.cell? ⟨g2,o2+i*4+2,none⟩=some (.string (str x.n))∧w'.cell? ⟨g2,o2+i*4+3,none⟩=some (.slice mo2 mm2 mc2))
    (first | go_keep | exact ⟨⟨hK3.cell x0 (by simp),hK3.cell x1 (by simp),hK3.cell x2 (by simp),hK3.cell x3 (by simp)⟩,hK3.cell y0 (by simp),hK3.cell y1 (by simp),hK3.cell y2 (by simp),hK3.cell y3 (by simp)⟩)
    (first
      | (go_at_call 102;refine (cS _ ?_).mono ?_;exact (Kept.refl [] _).drew;rintro e w3 ⟨rfl,hK3⟩;replace hK3:=(Kept.refl [] wr).drew.trans hK3 (by simp)))
   have HW3:Hid (Kept [] w w3):=HW.out.trans hK3 (by simp)
   clear cS hK3
   go_wp2_with fail
   go_roundw
   case rel=>exact ⟨i+1,by go_num,by omega,HW3⟩
   case measure=>simp [intOf];omega
  ·have hlt':¬ (i:Int) < n:=by omega
   go_wp2_with fail
   go_ret
   exact ⟨rfl,HW.out⟩
theorem slK_nil (w:World):SlK w none 0 0 []:=⟨rfl,Nat.le_refl _,Nat.zero_le _,fun i hi=>by simp at hi,fun x hx=>by simp at hx⟩
theorem equal_kept (w:World) (ao bo:Option Addr) (n m c d:Nat) (L M:List Ch) (hL:SlC w ao n c L) (hM:SlC w bo m d M) :
 Calls Tryz.prog 98 #[.slice ao n c,.slice bo m d] w fun e w'=>e=.returned (.bool (decide (L=M)))∧Kept [] w w':=by
 refine (equal_call w ao bo n m c d L M hL hM).mono ?_
 rintro _ _ ⟨rfl,q,rfl⟩
 exact ⟨rfl,drewN_kept w q⟩
end Go.Proofs.YtakafmejllilnaaGreat
