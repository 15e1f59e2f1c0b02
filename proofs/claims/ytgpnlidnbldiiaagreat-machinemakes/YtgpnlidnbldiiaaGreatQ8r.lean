/-
  Texts laid as one.
-/
import Derived.Test.YtgpnlidnbldiiaaGreatQ7r
import Derived.Test.YtgpnlidnbldiiaaGreatQ3r
import Derived.Test.YtgpnlidnbldiiaaGreatQ1r
import Derived.Test.YtgpnlidnbldiiaaGreatQ5r
import Derived.WalkSpells
set_option maxHeartbeats 4000000
set_option maxRecDepth 100000
/-
 change.Sorted.
-/
namespace Go.Proofs.YtgpnlidnbldiiaaGreat
open Go.RowKit
theorem rt (L:List Ch) (z:Ch):iu (fun i=>L.getD i z) 0 L.length=L:=by
 apply List.ext_getElem
 ·rw [ft];omega
 ·intro i h1 h2;rw [i6,Nat.zero_add];simp [List.getD,h2]
theorem wP {L:List Ch}{z:Ch}{h:Nat→Ch}(hR:bU h 0 L.length) (hA:aO (fun i=>L.getD i z) h 0 L.length):iu h 0 L.length=an L:=by
 have h1:=hA.alike;rw [rt] at h1;exact (h1.symm.trans (eE L)).one hR.ris (je L)
theorem lm (w:World) (ao:Option Addr) (n c:Nat) (L:List Ch) (hS:di w ao n c L) (hnil:ao=none→c=0) (hn:n≤1000000000) :
 Calls Tryz.prog 140 #[.slice ao n c] w fun e w'=>∃ v,e=.returned v∧aP w.heap.size w' v L∧aa [] w w':=by
 have hl:=hS.1;have hc:=hS.2.1;have hm:=hS.2.2.1;unfold maxLen at hm;have q0:∀ (w:World) (a:Option Addr) (n c:Nat),(binOp .eql 41 (.slice a n c) (.slice none 0 0)).run Tryz.prog w=.ok (.bool a.isNone) w:=fun w a n c=>Lib.run_eql_slice_nil w _ _ a n c 0 0 Tryz.underlying41;cases ao with
 | none =>
   obtain rfl:=hnil rfl;obtain rfl:n=0:=by omega
   obtain rfl:L=[]:=by simpa using hl
   clear hS;go_enter Tryz.func140,Tryz.ntmps140;(go_wp2_with fail);go_ret
   exact ⟨_,rfl,aP.nil _ _,aa.refl _ _⟩
 | some ad =>
   have hA:=(aa.refl [] w).alloc (.cells #[] 60);have hO0:=fw w w.heap.size (Nat.le_refl _);have HS:Hid (di (w.alloc (.cells #[] 60)) (some ad) n c L):=hS.kept hA (by simp);have HL:Hid (L.length=n):=hl;clear hS hl;go_enter Tryz.func140,Tryz.ntmps140;(go_wp2_with (at_builtin;refine dV rfl _ _ rfl w.heap.size _ [] rfl hO0 ad n c L rfl HL.out.symm HS.out.runs' (by rw [HL.out];simp;omega) (by simp) ?_));intro v' w' hO hg;have hK:=bI hA hO0 (Nat.le_refl _) hg;clear hg hO0;(go_wp2_with fail);go_ret
   exact ⟨v',rfl,hO,hK⟩
theorem zL {B:Nat}{a b w:World}{g:Nat}(h:aa [] a b) (k:aa [g] b w) (hg:B≤g) (hB:a.heap.size≤B):aa [] a w :=
 h.trans k (by intro i hi;simp at hi;subst hi;exact .inr (by omega))
theorem vz {L:List Ch}(hp:∀ x∈L,x.p.length≤140737488355328) (z:Ch):Bd (fun i=>L.getD i z) L.length:=fun k hk=>by
 have e:L.getD k z=L[k]:=by simp [List.getD,hk]
 show (L.getD k z).p.length≤_;rw [e];exact hp _ (List.getElem_mem hk)
theorem zw (w:World) (ao:Option Addr) (c:Nat) (v:Value) :
 Calls Tryz.prog 206 #[.slice ao 0 c,.int .i64 0,.int .i64 0,v] w fun e w'=>e=.returned (.tuple #[])∧w'=w:=by
 go_enter Tryz.func206,Tryz.ntmps206;go_wp2_with fail
 refine wp_loop_rounds 1 ?_;rw [rounds_succ];go_wp2_with fail
 go_returns
 exact ⟨rfl,rfl⟩
theorem rq (w:World) (ao:Option Addr) (c:Nat) (v:Value) :
 Calls Tryz.prog 198 #[.slice ao 0 c,.int .i64 0,v] w fun e w'=>e=.returned (.tuple #[])∧w'=w:=by
 go_enter Tryz.func198,Tryz.ntmps198;go_wp2_with fail
 refine wp_loop_rounds 1 ?_;rw [rounds_succ];go_wp2_with fail
 refine (zw _ _ _ _).mono ?_;rintro e w' ⟨rfl,rfl⟩;go_wp2_with fail
 refine wp_loop_rounds 1 ?_;rw [rounds_succ];go_wp2_with fail
 go_returns
 exact ⟨rfl,rfl⟩
theorem lI (w:World) (ao:Option Addr) (c:Nat) :
 Calls Tryz.prog 187 #[.slice ao 0 c,.func (.func 178) #[] #[]] w fun e w'=>e=.returned (.tuple #[])∧w'=w:=by
 go_enter Tryz.func187,Tryz.ntmps187;go_wp2_with fail
 refine (rq _ _ _ _).mono ?_;rintro e w' ⟨rfl,rfl⟩;go_wp2_with fail
 go_returns
 exact ⟨rfl,rfl⟩
theorem og (w:World) (ao:Option Addr) (n c:Nat) (L:List Ch) (hS:di w ao n c L) (hnil:ao=none→c=0) (hn:n≤1000000000) (hp:∀ x∈L,x.p.length≤140737488355328) :
 Calls Tryz.prog 177 #[.slice ao n c,.func (.func 178) #[] #[]] w fun e w'=>∃ v,e=.returned v∧aP w.heap.size w' v (an L)∧aa [] w w':=by
 have cC:=lm w ao n c L hS hnil hn;have hl:=hS.1;subst hl;clear hS;have HP:Hid (∀ x∈L,x.p.length≤140737488355328):=hp;clear hp;go_enter Tryz.func177,Tryz.ntmps177;go_wp2_with fail
 refine cC.mono ?_;rintro e w1 ⟨v,rfl,hO,hK1⟩;clear cC;by_cases h0:L.length=0
 ·obtain rfl:L=[]:=by simpa using h0
  obtain ⟨bo,cb,hv,_⟩:=hO.sl;replace hv:v=.slice bo 0 cb:=hv;subst hv;have HO:Hid (aP w.heap.size w1 (.slice bo 0 cb) []):=hO;clear hO;(go_wp2_with fail);refine (lI _ _ _).mono ?_;rintro e w2 ⟨rfl,rfl⟩;(go_wp2_with fail);go_ret
  exact ⟨_,rfl,HO.out,hK1⟩
 ·obtain ⟨g,cap,rfl,hg,hR⟩:=hO.row (by omega) ⟨[],false,0⟩;have cS:=lN w1 g L.length cap _ hR (vz HP.out _) (by omega);clear hO hR;(go_wp2_with fail);refine cS.mono ?_;rintro e w2 ⟨rfl,h,hT,hRi,hA,hK2⟩;have hO2:=hT.own hg;rw [wP hRi hA] at hO2;have HO2:Hid (aP w.heap.size w2 (.slice (some ⟨g,0,none⟩) L.length cap) (an L)):=hO2;have hK:=zL hK1 hK2 hg (Nat.le_refl _);clear hT hRi hA hK2 hO2 cS;(go_wp2_with fail);go_ret
  exact ⟨_,rfl,HO2.out,hK⟩
theorem aG.setP {w:World}{g n cap:Nat}{f:Nat→Ch}(h:aG w g n cap f) {i:Nat}(hi:i < n):aG (w.setCell ⟨g,i*3,none⟩ (.string (ak (f i).p))) g n cap f:=by
 obtain ⟨h1,h2,cur,hh,hs,r⟩:=h;refine ⟨h1,h2,_,heap_setCell_same w g (i*3) cur _ _ hh,by simpa using hs,fun k hk=>?_⟩;obtain ⟨r0,r1,r2⟩:=r k hk;by_cases hki:k=i
 ·subst hki;refine ⟨?_,?_,?_⟩
  ·simp [Array.getElem?_setIfInBounds];omega
  ·rw [Array.getElem?_setIfInBounds_ne (by omega)];exact r1
  ·rw [Array.getElem?_setIfInBounds_ne (by omega)];exact r2
 ·refine ⟨?_,?_,?_⟩
  ·rw [Array.getElem?_setIfInBounds_ne (by omega)];exact r0
  ·rw [Array.getElem?_setIfInBounds_ne (by omega)];exact r1
  ·rw [Array.getElem?_setIfInBounds_ne (by omega)];exact r2
theorem qF (w:World) (ao:Option Addr) (n c:Nat) (L:List Ch) (hS:di w ao n c L) (hnil:ao=none→c=0) (hn:n≤1000000000) (hp:∀ x∈L,x.p.length≤140737488355328) :
 Calls Tryz.prog 164 #[.slice ao n c] w fun e w'=>∃ v,e=.returned v∧aP w.heap.size w' v (an L)∧aa [] w w':=by
 have cC:=og w ao n c L hS hnil hn hp;have hl:=hS.1;subst hl;clear hS;have hp':∀ x∈an L,x.p.length≤140737488355328:=fun x hx=>hp x (((eE L).mem x).2 hx);have HB:Hid (Bd (fun i=>(an L).getD i ⟨[],false,0⟩) (an L).length):=vz hp' _;generalize an L=M at *;clear hp hp';go_enter Tryz.func164,Tryz.ntmps164;go_wp2_with fail
 refine cC.mono ?_;rintro e w1 ⟨v,rfl,hO,hK1⟩;clear cC;by_cases h0:M.length=0
 ·obtain rfl:M=[]:=by simpa using h0
  obtain ⟨bo,cb,hv,_⟩:=hO.sl;replace hv:v=.slice bo 0 cb:=hv;subst hv;have HO:Hid (aP w.heap.size w1 (.slice bo 0 cb) []):=hO;clear hO h0;(go_wp2_with fail);refine wp_loop_rounds 1 ?_;rw [rounds_succ];(go_wp2_with fail);go_ret
  exact ⟨_,rfl,HO.out,hK1⟩
 ·obtain ⟨g,cap,rfl,hg,hR⟩:=hO.row (by omega) ⟨[],false,0⟩;have HG:Hid (w.heap.size≤g):=hg;obtain ⟨f,hf⟩:∃ f:Nat→Ch,f=fun i=>M.getD i ⟨[],false,0⟩:=⟨_,rfl⟩;have HF:Hid (iu f 0 M.length=M):=by show iu f 0 M.length=M;rw [hf];exact rt M _
  rw [← hf] at hR HB;have HR:Hid (aG w1 g M.length cap f):=hR;have hcap:=hR.le;have hmax:=hR.max;unfold maxLen at hmax;obtain ⟨m,hm⟩:∃ m,m=M.length:=⟨_,rfl⟩;rw [← hm] at HR HB HF hcap h0 ⊢;clear hO hR hf hg hm;(go_wp2_with fail);go_loopw [9] (fun iv wr=>∃ i:Nat,i≤m∧iv=.int .i64 i∧Hid (aG wr g m cap f)∧Hid (aa [] w wr)) (fun iv _=>m - (intOf iv).toNat)
  case atStart=>exact ⟨0,Nat.zero_le _,rfl,HR,hK1⟩
  case round =>
   obtain ⟨i,hi,rfl,HT,HK⟩:=hrel;by_cases hlt:i < m
   ·have hlt':(i:Int) < m:=by omega
    have c0:=(HT.out.ch hlt).c0;have hb:=HB.out i hlt;have cP:=fun W=>nN (f i).p W hb;have hbg:g < wr.heap.size:=HT.out.lt;clear hb;(go_wp2_with fail);refine (cP _).mono ?_;rintro e w2 ⟨rfl,hK2⟩;have HT2:Hid (aG w2 g m cap f):=HT.out.kept hK2 (by simp);have c1:=(HT2.out.ch hlt).c0;have f1:=HT2.out.froz (i*3);have HK2:Hid (aa [] w w2):=HK.out.trans hK2 (by simp);have HT3:Hid (aG (w2.setCell ⟨g,i*3,none⟩ (.string (ak (f i).p))) g m cap f):=HT2.out.setP hlt;clear cP c0 hK2;(go_wp2_with fail);go_roundw
    case rel=>exact ⟨i+1,by omega,by go_num,HT3,HK2.out.setCell (.inr HG.out) _⟩
    case measure=>simp [intOf];omega
   ·have hlt':¬ (i:Int) < m:=by omega
    have HO:Hid (aP w.heap.size wr (.slice (some ⟨g,0,none⟩) m cap) M):=by
     have h1:=HT.out.own HG.out;rw [HF.out] at h1;exact h1
    (go_wp2_with fail);go_ret
    exact ⟨_,rfl,HO.out,HK.out⟩
theorem m9 {L M:List Ch}{k:Nat}(h:L.take k=M.take k) (h1:k < L.length) (h2:k < M.length) (h3:L[k]=M[k]):L.take (k+1)=M.take (k+1):=by
 rw [List.take_succ_eq_append_getElem h1,List.take_succ_eq_append_getElem h2,h,h3]
theorem ow {L M:List Ch}{k:Nat}(h1:k < L.length) (h2:k < M.length) (h3:L[k]≠M[k]):decide (L=M)=false:=by
 rw [decide_eq_false_iff_not];intro e;subst e;exact h3 rfl
theorem rU (x y:Ch):(x=y∧(ak x.p).toList=(ak y.p).toList∧x.g=y.g∧x.d=y.d)∨(x≠y∧((¬ (ak x.p).toList=(ak y.p).toList)∨((ak x.p).toList=(ak y.p).toList∧¬ x.g=y.g) ∨
 ((ak x.p).toList=(ak y.p).toList∧x.g=y.g∧¬ x.d=y.d))):=by
 have e:∀ a b:List UInt8,((ak a).toList=(ak b).toList↔a=b):=fun a b=>by
  rw [Go.ByteArray.toList_eq,Go.ByteArray.toList_eq,bE,bE]
 rw [e];obtain ⟨p,g,d⟩:=x;obtain ⟨p',g',d'⟩:=y;simp only [Ch.mk.injEq];by_cases h1:p=p' <;> by_cases h2:g=g' <;> by_cases h3:d=d' <;> simp [h1,h2,h3]
theorem tM (w:World) (ao bo:Option Addr) (n m c d:Nat) (L M:List Ch) (hL:di w ao n c L) (hM:di w bo m d M) :
 Calls Tryz.prog 115 #[.slice ao n c,.slice bo m d] w fun r w'=>r=.returned (.bool (decide (L=M)))∧∃ q,w'=w.drewN q:=by
 have hn:=hL.1;subst hn;have hm:=hM.1;subst hm;have l1:=hL.2.1;have l2:=hL.2.2.1;have m1:=hM.2.1;have m2:=hM.2.2.1;unfold maxLen at l2 m2;by_cases hlen:L.length=M.length
 ·by_cases h0:L.length=0
  ·have e1:L=[]:=by simpa using h0
   have e2:M=[]:=by simpa [h0] using hlen.symm
   subst e1;subst e2;clear hL hM;go_enter Tryz.func115,Tryz.ntmps115;go_wp2
   refine wp_loop_rounds 1 ?_;rw [rounds_succ];go_wp2
   go_ret
   exact ⟨rfl,0,rfl⟩
  ·obtain ⟨b,o,rfl,hA⟩:=hL.some (by omega);obtain ⟨b2,o2,rfl,hB⟩:=hM.some (by omega);have hi:(L.length:Int)=M.length:=by omega
   obtain ⟨R,hR⟩:∃ R,R=decide (L=M):=⟨_,rfl⟩;rw [← hR];have HR:Hid (R=decide (L=M)):=hR;have HA:Hid (∀ i (hi:i < L.length),j5 w b (o+i*3) L[i]):=hA;have HB:Hid (∀ i (hi:i < M.length),j5 w b2 (o2+i*3) M[i]):=hB;clear hL hM hA hB hR;go_enter Tryz.func115,Tryz.ntmps115;(go_wp2_with fail);go_loopw [5] (fun i wr=>∃ (k q:Nat),k≤L.length∧i=.int .i64 k∧wr=w.drewN q∧Hid (L.take k=M.take k)) (fun i _=>L.length - (intOf i).toNat)
   case atStart=>exact ⟨0,0,Nat.zero_le _,rfl,rfl,rfl⟩
   case round =>
    obtain ⟨k,q,hk,rfl,rfl,hT⟩:=hrel;by_cases hlt:k < L.length
    ·obtain ⟨c0,c1,c2⟩:=HA.out k hlt;obtain ⟨d0,d1,d2⟩:=HB.out k (by omega);have hlt':(k:Int) < M.length:=by omega
     have hk2:k < M.length:=by omega
     rcases rU L[k] M[k] with ⟨he,e0,e1,e2⟩ | ⟨he,hne⟩
     ·have HE:Hid (L.take (k+1)=M.take (k+1)):=m9 hT.out hlt hk2 he;clear he;(go_wp2_with fail);go_region
      (go_wp2_with fail);go_roundw
      case rel=>exact ⟨k+1,q+1,by omega,by go_num,rfl,HE⟩
      case measure=>simp [intOf];omega
     ·have HE:Hid (decide (L=M)=false):=ow hlt hk2 he;clear he;rcases hne with e0 | ⟨e0,e1⟩ | ⟨e0,e1,e2⟩
      all_goals
       (go_wp2_with fail);go_region
       (go_wp2_with fail);go_ret
       exact ⟨by rw [HR.out,HE.out];rfl,_,rfl⟩
    ·have HE:Hid (decide (L=M)=true):=by
      show decide (L=M)=true;have h1:=hT.out;rw [List.take_of_length_le (by omega),List.take_of_length_le (by omega)] at h1;simpa using h1
     (go_wp2_with fail);go_ret
     exact ⟨by rw [HR.out,HE.out];rfl,_,rfl⟩
 ·have hi:¬ (L.length:Int)=M.length:=by omega
  have HE:Hid (decide (L=M)=false):=by
   show decide (L=M)=false;rw [decide_eq_false_iff_not];intro e;exact hlen (by rw [e])
  obtain ⟨R,hR⟩:∃ R,R=decide (L=M):=⟨_,rfl⟩;rw [← hR];have HR:Hid (R=decide (L=M)):=hR;clear hL hM hR;go_enter Tryz.func115,Tryz.ntmps115;(go_wp2_with fail);go_ret
  exact ⟨by rw [HR.out,HE.out];rfl,0,rfl⟩
theorem tJ (w:World) (ao bo:Option Addr) (n m c d:Nat) (L M:List Ch) (hL:di w ao n c L) (hM:di w bo m d M) :
 Calls Tryz.prog 167 #[.slice ao n c,.slice bo m d] w fun r w'=>r=.returned (.bool (decide (L=M)))∧∃ q,w'=w.drewN q:=by
 have hn:=hL.1;subst hn;have hm:=hM.1;subst hm;have l1:=hL.2.1;have l2:=hL.2.2.1;have m1:=hM.2.1;have m2:=hM.2.2.1;unfold maxLen at l2 m2;by_cases hlen:L.length=M.length
 ·by_cases h0:L.length=0
  ·have e1:L=[]:=by simpa using h0
   have e2:M=[]:=by simpa [h0] using hlen.symm
   subst e1;subst e2;clear hL hM;go_enter Tryz.func167,Tryz.ntmps167;go_wp2
   refine wp_loop_rounds 1 ?_;rw [rounds_succ];go_wp2
   go_ret
   exact ⟨rfl,0,rfl⟩
  ·obtain ⟨b,o,rfl,hA⟩:=hL.some (by omega);obtain ⟨b2,o2,rfl,hB⟩:=hM.some (by omega);have hi:(L.length:Int)=M.length:=by omega
   obtain ⟨R,hR⟩:∃ R,R=decide (L=M):=⟨_,rfl⟩;rw [← hR];have HR:Hid (R=decide (L=M)):=hR;have HA:Hid (∀ i (hi:i < L.length),j5 w b (o+i*3) L[i]):=hA;have HB:Hid (∀ i (hi:i < M.length),j5 w b2 (o2+i*3) M[i]):=hB;clear hL hM hA hB hR;go_enter Tryz.func167,Tryz.ntmps167;(go_wp2_with fail);go_loopw [13] (fun i wr=>∃ (k q:Nat),k≤L.length∧i=.int .i64 k∧wr=w.drewN q∧Hid (L.take k=M.take k)) (fun i _=>L.length - (intOf i).toNat)
   case atStart=>exact ⟨0,0,Nat.zero_le _,rfl,rfl,rfl⟩
   case round =>
    obtain ⟨k,q,hk,rfl,rfl,hT⟩:=hrel;by_cases hlt:k < L.length
    ·obtain ⟨c0,c1,c2⟩:=HA.out k hlt;obtain ⟨d0,d1,d2⟩:=HB.out k (by omega);have hlt':(k:Int) < M.length:=by omega
     have hk2:k < M.length:=by omega
     rcases rU L[k] M[k] with ⟨he,e0,e1,e2⟩ | ⟨he,hne⟩
     ·have HE:Hid (L.take (k+1)=M.take (k+1)):=m9 hT.out hlt hk2 he;clear he;(go_wp2_with fail);go_region
      (go_wp2_with fail);go_roundw
      case rel=>exact ⟨k+1,q+1,by omega,by go_num,rfl,HE⟩
      case measure=>simp [intOf];omega
     ·have HE:Hid (decide (L=M)=false):=ow hlt hk2 he;clear he;rcases hne with e0 | ⟨e0,e1⟩ | ⟨e0,e1,e2⟩
      all_goals
       (go_wp2_with fail);go_region
       (go_wp2_with fail);go_ret
       exact ⟨by rw [HR.out,HE.out];rfl,_,rfl⟩
    ·have HE:Hid (decide (L=M)=true):=by
      show decide (L=M)=true;have h1:=hT.out;rw [List.take_of_length_le (by omega),List.take_of_length_le (by omega)] at h1;simpa using h1
     (go_wp2_with fail);go_ret
     exact ⟨by rw [HR.out,HE.out];rfl,_,rfl⟩
 ·have hi:¬ (L.length:Int)=M.length:=by omega
  have HE:Hid (decide (L=M)=false):=by
   show decide (L=M)=false;rw [decide_eq_false_iff_not];intro e;exact hlen (by rw [e])
  obtain ⟨R,hR⟩:∃ R,R=decide (L=M):=⟨_,rfl⟩;rw [← hR];have HR:Hid (R=decide (L=M)):=hR;clear hL hM hR;go_enter Tryz.func167,Tryz.ntmps167;(go_wp2_with fail);go_ret
  exact ⟨by rw [HR.out,HE.out];rfl,0,rfl⟩
theorem mE (w:World) (ao bo:Option Addr) (n m c d:Nat) (L M:List Ch) (hL:di w ao n c L) (hM:di w bo m d M) :
 Calls Tryz.prog 115 #[.slice ao n c,.slice bo m d] w fun r w'=>r=.returned (.bool (decide (L=M)))∧aa [] w w' :=
 (tM w ao bo n m c d L M hL hM).mono fun _ _ ⟨h1,q,h2⟩=>⟨h1,by rw [h2];exact aN w q⟩
theorem uK (w:World) (ao bo:Option Addr) (n m c d:Nat) (L M:List Ch) (hL:di w ao n c L) (hM:di w bo m d M) :
 Calls Tryz.prog 138 #[.slice ao n c,.slice bo m d] w fun r w'=>r=.returned (.bool (decide (L=M)))∧∃ q,w'=w.drewN q:=by
 have cE:=tJ w ao bo n m c d L M hL hM;generalize decide (L=M)=R at cE;clear hL hM;go_enter Tryz.func138,Tryz.ntmps138;go_wp2_with fail
 refine cE.mono ?_;rintro e w1 ⟨rfl,q,rfl⟩;go_wp2_with fail
 go_ret
 exact ⟨rfl,q,rfl⟩
theorem dl (p q:List UInt8):((ak p).toList==(ak q).toList)=decide (p=q):=by
 rw [Go.ByteArray.toList_eq,Go.ByteArray.toList_eq,bE,bE];by_cases h:p=q <;> simp [h]
theorem di.take {w:World}{ao:Option Addr}{n c:Nat}{L:List Ch}(h:di w ao n c L) {k:Nat}(hk:k≤n):di w ao k c (L.take k):=by
 refine ⟨by rw [List.length_take,h.1];omega,by have:=h.2.1;omega,h.2.2.1,fun i hi=>?_⟩;rw [List.length_take] at hi;obtain ⟨b,o,e,h1⟩:=h.2.2.2 i (by omega);exact ⟨b,o,e,by rw [List.getElem_take];exact h1⟩
theorem vX (w:World) (b:Nat) (p:List UInt8) (x:Ch) (hp:w.cell? ⟨b,0,none⟩=some (.string (ak p))) :
 Calls Tryz.prog 197 #[.agg #[.string (ak x.p),.bool x.g,.int .u64 x.d],.pointer (some ⟨b,0,none⟩)] w fun e w'=>e=.returned (.bool (decide (x.p=p)))∧aa [] w w':=by
 have hK:=(aa.refl [] w).alloc (.cells #[.string (ak x.p),.bool x.g,.int .u64 x.d] 60);have hp':=hK.cell hp (by simp);have he:=dl x.p p;generalize decide (x.p=p)=R at he;clear hp;go_enter Tryz.func197,Tryz.ntmps197;go_wp2_with fail
 go_ret
 exact ⟨rfl,hK⟩
theorem yC (w:World) (b:Nat) (ao:Option Addr) (n c:Nat) (L:List Ch) (p:List UInt8) (hp:w.cell? ⟨b,0,none⟩=some (.string (ak p))) (hS:di w ao n c L) :
 Calls Tryz.prog 205 #[.slice ao n c,.func (.func 197) #[] #[.pointer (some ⟨b,0,none⟩)]] w fun e w'=>∃ z:Int,e=.returned (.int .i64 z)∧(0≤z↔∃ x∈L,x.p=p)∧aa [] w w':=by
 have hl:=hS.1;subst hl;have hc:=hS.2.1;have hm:=hS.2.2.1;unfold maxLen at hm;have HS:Hid (di w ao L.length c L):=hS;have HP:Hid (w.cell? ⟨b,0,none⟩=some (.string (ak p))):=hp;clear hS hp;go_enter Tryz.func205,Tryz.ntmps205;go_wp2_with fail
 go_loopw [8] (fun iv wr=>∃ k:Nat,k≤L.length∧iv=.int .i64 k∧Hid (aa [] w wr)∧Hid (∀ i (hi:i < L.length),i < k→L[i].p≠p)) (fun iv _=>L.length - (intOf iv).toNat)
 case atStart=>exact ⟨0,Nat.zero_le _,rfl,aa.refl _ _,fun i _ h=>by omega⟩
 case round =>
  obtain ⟨k,hk,rfl,HK,HN⟩:=hrel;by_cases hlt:k < L.length
  ·obtain ⟨g,o,hao,hx⟩:=HS.out.2.2.2 k hlt;subst hao;obtain ⟨c0,c1,c2⟩:=hx.kept HK.out (by simp);have c1':=fun w' (h:aa [] w w')=>vX w' b p L[k] (h.cell HP.out (by simp));have hlt':(k:Int) < L.length:=by omega
   obtain ⟨x,hxe⟩:∃ x,x=L[k]:=⟨_,rfl⟩;have HX:Hid (x=L[k]):=hxe;rw [← hxe] at c0 c1 c2 c1';clear hx hxe;by_cases he:x.p=p
   ·rw [decide_eq_true he] at c1';have HE:Hid (x.p=p):=he;clear he;(go_wp2_with fail);refine (c1' _ HK.out).mono ?_;rintro e w2 ⟨rfl,hK2⟩;clear c1';(go_wp2_with fail);go_ret
    refine ⟨k,rfl,⟨fun _=>⟨x,?_,HE.out⟩,fun _=>by omega⟩,HK.out.trans hK2 (by simp)⟩;rw [HX.out];exact List.getElem_mem hlt
   ·rw [decide_eq_false he] at c1';have HE:Hid (x.p≠p):=he;clear he;(go_wp2_with fail);refine (c1' _ HK.out).mono ?_;rintro e w2 ⟨rfl,hK2⟩;have HK2:Hid (aa [] w w2):=HK.out.trans hK2 (by simp);clear c1' hK2;(go_wp2_with fail);go_roundw
    case rel =>
     refine ⟨k+1,by omega,by go_num,HK2,fun i hi h=>?_⟩;by_cases e:i=k
     ·subst e;rw [← HX.out];exact HE.out
     ·exact HN.out i hi (by omega)
    case measure=>simp [intOf];omega
  ·have hlt':¬ (k:Int) < L.length:=by omega
   (go_wp2_with fail);go_ret
   refine ⟨-1,rfl,⟨fun h=>by omega,fun ⟨x,hx,he⟩=>?_⟩,HK.out⟩;obtain ⟨i,hi,rfl⟩:=List.getElem_of_mem hx;exact absurd he (HN.out i hi (by omega))
theorem oj (w:World) (b:Nat) (ao:Option Addr) (n c:Nat) (L:List Ch) (p:List UInt8) (hp:w.cell? ⟨b,0,none⟩=some (.string (ak p))) (hS:di w ao n c L) :
 Calls Tryz.prog 196 #[.slice ao n c,.func (.func 197) #[] #[.pointer (some ⟨b,0,none⟩)]] w fun e w'=>e=.returned (.bool (L.any fun x=>decide (x.p=p)))∧aa [] w w':=by
 have cI:=yC w b ao n c L p hp hS
 have hA:∀ z:Int,(0≤z↔∃ x∈L,x.p=p)→decide (0≤z)=L.any fun x=>decide (x.p=p):=fun z hz=>by
  rw [Bool.eq_iff_iff];simp [hz]
 generalize (L.any fun x=>decide (x.p=p))=R at hA ⊢;have HA:Hid (∀ z:Int,(0≤z↔∃ x∈L,x.p=p)→decide (0≤z)=R):=hA;clear hS hp hA;go_enter Tryz.func196,Tryz.ntmps196;go_wp2_with fail
 refine cI.mono ?_;rintro e w2 ⟨z,rfl,hz,hK⟩;have HE:Hid (decide (0≤z)=R):=HA.out z hz;clear hz cI;go_wp2_with fail
 go_ret
 exact ⟨by rw [← HE.out];rfl,hK⟩
theorem wn (w:World) (ao:Option Addr) (n c:Nat) (L:List Ch) (p:List UInt8) (hS:di w ao n c L) :
 Calls Tryz.prog 186 #[.slice ao n c,.string (ak p)] w fun e w'=>e=.returned (.bool (L.any fun x=>decide (x.p=p)))∧aa [] w w':=by
 have hK:=(aa.refl [] w).alloc (.cells #[.string (ak p)] 9)
 have h0:(w.alloc (.cells #[.string (ak p)] 9)).cell? ⟨w.heap.size,0,none⟩=some (.string (ak p)) :=
  ag (heap_alloc_new w (.cells #[.string (ak p)] 9)) rfl
 have cC:=oj _ w.heap.size ao n c L p h0 (hS.kept hK (by simp));generalize (L.any fun x=>decide (x.p=p))=R at cC ⊢;clear hS h0;go_enter Tryz.func186,Tryz.ntmps186;go_wp2_with fail
 refine cC.mono ?_;rintro e w2 ⟨rfl,hK2⟩;go_wp2_with fail
 go_ret
 exact ⟨rfl,hK.trans hK2 (by simp)⟩
theorem AM (w:World) (x:Ch) (t:TypeId):j5 (w.alloc (.cells #[.string (ak x.p),.bool x.g,.int .u64 x.d] t)) w.heap.size 0 x:=by
 have h:=heap_alloc_new w (.cells #[.string (ak x.p),.bool x.g,.int .u64 x.d] t);exact ⟨ag h rfl,ag h rfl,ag h rfl⟩
theorem zG (w:World) (x:Ch) (hx:x.p.length≤1000000000000) :
 Calls Tryz.prog 185 #[.agg #[.string (ak x.p),.bool x.g,.int .u64 x.d]] w fun e w'=>e=.returned (.bool (fk x))∧aa [] w w':=by
 have hK:=(aa.refl [] w).alloc (.cells #[.string (ak x.p),.bool x.g,.int .u64 x.d] 60);have hB:=AM w x 60;have cN:=fun W=>lx x.p W hx;have hm:fk x=(decide (dJ x.p=some x.p) && !(x.g && !(x.d==0))):=rfl;rcases hn:dJ x.p with _ | q
 ·rw [hn] at cN hm;have hm2:fk x=false:=by rw [hm];simp
  rw [hm2];clear hm hm2 hn;replace cN:∀ W,Calls Tryz.prog 146 #[.string (ak x.p)] W fun e w'=>e=.returned (.tuple #[.string ByteArray.empty,.bool false])∧aa [] W w':=cN;go_enter Tryz.func185,Tryz.ntmps185;(go_wp2_with fail);refine (cN _).mono ?_;rintro e w2 ⟨rfl,hK2⟩;obtain ⟨c0,c1,c2⟩:=hB.kept hK2 (by simp);rw [Nat.zero_add] at c1 c2;have hKw:=hK.trans hK2 (by simp);clear hB hK hK2 cN;(go_wp2_with fail);go_ret
  exact ⟨rfl,hKw⟩
 ·rw [hn] at cN hm;replace cN:∀ W,Calls Tryz.prog 146 #[.string (ak x.p)] W fun e w'=>e=.returned (.tuple #[.string (ak q),.bool true])∧aa [] W w':=cN;have he:=dl q x.p;have hm2:fk x=(decide (q=x.p) && !(x.g && !(x.d==0))):=by rw [hm];simp
  rw [hm2];clear hm hm2 hn;generalize decide (q=x.p)=r at he ⊢;obtain ⟨xp,xg,xd⟩:=x;simp only at *
  cases r <;> cases xg <;> (
   go_enter Tryz.func185,Tryz.ntmps185;(go_wp2_with fail);refine (cN _).mono ?_;rintro e w2 ⟨rfl,hK2⟩;obtain ⟨c0,c1,c2⟩:=hB.kept hK2 (by simp);rw [Nat.zero_add] at c1 c2;have hKw:=hK.trans hK2 (by simp);clear hB hK hK2 cN;(go_wp2_with fail);go_ret
   exact ⟨rfl,hKw⟩)
theorem yd {L:List Ch}{k:Nat}{p:List UInt8}:((L.take k).any fun x=>decide (x.p=p))=false→∀ i (hi:i < L.length),i < k→L[i].p≠p:=by
 intro h i hi hk e;rw [List.any_eq_false] at h;have h2:i < (L.take k).length:=by rw [List.length_take];omega
 have h1:=h (L.take k)[i] (List.getElem_mem h2);rw [List.getElem_take] at h1;simp [e] at h1
theorem zU {L:List Ch}{k:Nat}{p:List UInt8}:((L.take k).any fun x=>decide (x.p=p))=true→∃ i,∃ (hi:i < L.length),i < k∧L[i].p=p:=by
 intro h;rw [List.any_eq_true] at h;obtain ⟨x,hx,he⟩:=h;obtain ⟨i,hi,rfl⟩:=List.getElem_of_mem hx;rw [List.length_take] at hi;refine ⟨i,by omega,by omega,?_⟩;rw [List.getElem_take] at he;simpa using he
theorem sM (w:World) (ao:Option Addr) (n c:Nat) (L:List Ch) (hS:di w ao n c L) (hp:∀ x∈L,x.p.length≤1000000000000) :
 Calls Tryz.prog 176 #[.slice ao n c] w fun e w'=>e=.returned (.int .i64 (gy L))∧aa [] w w':=by
 have hl:=hS.1;subst hl;have hc:=hS.2.1;have hm:=hS.2.2.1;unfold maxLen at hm;by_cases h0:L.length=0
 ·rw [dP (fun h=>by have:=h.1;omega)];have h0':((L.length:Int)==0)=true:=by simp [h0]
  clear hS;go_enter Tryz.func176,Tryz.ntmps176;(go_wp2_with fail);go_ret
  exact ⟨rfl,aa.refl _ _⟩
 have h0':((L.length:Int)==0)=false:=by simp [h0]
 by_cases h1:16 < L.length
 ·rw [dP (fun h=>by have:=h.2.1;omega)];have h1':(16:Int) < L.length:=by omega
  clear hS;go_enter Tryz.func176,Tryz.ntmps176;(go_wp2_with fail);go_ret
  exact ⟨rfl,aa.refl _ _⟩
 have h1':¬ (16:Int) < L.length:=by omega
 obtain ⟨b,o,hao,_⟩:=hS.some (by omega);subst hao;have HS:Hid (di w (some ⟨b,o,none⟩) L.length c L):=hS;have HP:Hid (∀ x∈L,x.p.length≤1000000000000):=hp;obtain ⟨R,hR⟩:∃ R,R=gy L:=⟨_,rfl⟩;rw [← hR];have HR:Hid (R=gy L):=hR;clear hS hp hR;go_enter Tryz.func176,Tryz.ntmps176;go_wp2_with fail
 go_loopw [15] (fun iv wr=>∃ k:Nat,k≤L.length∧iv=.int .i64 k∧Hid (aa [] w wr)∧Hid (∀ i (hi:i < L.length),i < k→fk L[i]=true∧∀ j (hj:j < i),L[j].p≠L[i].p)) (fun iv _=>L.length - (intOf iv).toNat)
 case atStart=>exact ⟨0,Nat.zero_le _,rfl,aa.refl _ _,fun i _ h=>by omega⟩
 case round =>
  obtain ⟨k,hk,rfl,HK,HN⟩:=hrel;by_cases hlt:k < L.length
  ·have hlt':(k:Int) < L.length:=by omega
   have hkc:k≤c:=by omega
   obtain ⟨g',o',hao,hx⟩:=HS.out.2.2.2 k hlt;obtain ⟨rfl,rfl⟩:b=g'∧o=o':=by simpa using hao
   obtain ⟨c0,c1,c2⟩:=hx.kept HK.out (by simp);obtain ⟨x,hxe⟩:∃ x,x=L[k]:=⟨_,rfl⟩;have HX:Hid (x=L[k]):=hxe;rw [← hxe] at c0 c1 c2;have hKa:=(aa.refl [] wr).alloc (.cells #[.string (ak x.p),.bool x.g,.int .u64 x.d] 60);obtain ⟨d0,d1,d2⟩:=AM wr x 60;rw [Nat.zero_add] at d1 d2;have hxp:x.p.length≤1000000000000:=by rw [hxe];exact HP.out _ (List.getElem_mem hlt)
   have cM:=fun W=>zG W x hxp;have cH:=fun W (h:aa [] wr W)=>wn W (some ⟨b,o,none⟩) k c (L.take k) x.p (((HS.out.kept HK.out (by simp)).kept h (by simp)).take hk);clear hx hxe hao hxp;rcases hma:fk x with _ | _
   ·have HE:Hid (R=1):=by
     show R=1;rw [HR.out];exact dP fun h=>by have:=(h.2.2 k hlt).1;rw [← HX.out,hma] at this;cases this
    rw [hma] at cM;clear hma cH;go_wp2_with fail
    first
     | go_region_with (go_at_call 185;refine (cM _).mono ?_;rintro e w1 ⟨rfl,hKb⟩;have HK1:Hid (aa [] w w1):=(HK.out.trans hKa (by simp)).trans ((aa.refl [] _).drew.trans hKb (by simp)) (by simp))
     | fail
    all_goals
     (go_wp2_with fail);go_ret
     exact ⟨by rw [HE.out];rfl,HK1.out⟩
   ·rw [hma] at cM;rcases hha:((L.take k).any fun y=>decide (y.p=x.p)) with _ | _
    ·have HE:Hid (∀ i (hi:i < L.length),i < k+1→fk L[i]=true∧∀ j (hj:j < i),L[j].p≠L[i].p):=fun i hi h=>by
      by_cases e:i=k
      ·subst e;refine ⟨by rw [← HX.out];exact hma,fun j hj=>?_⟩;rw [← HX.out];exact yd hha j (by omega) hj
      ·exact HN.out i hi (by omega)
     rw [hha] at cH;clear hma hha;go_wp2_with fail
     go_region_held3 (fun w'=>w'.cell? ⟨wr.heap.size,0,none⟩=some (.string (ak x.p))∧w'.cell? ⟨wr.heap.size,1,none⟩=some (.bool x.g)∧w'.cell? ⟨wr.heap.size,2,none⟩=some (.int .u64 x.d))
      (first | go_keep | exact ⟨hK1.cell d0 (by simp),hK1.cell d1 (by simp),hK1.cell d2 (by simp)⟩)
      (first
        | (go_at_call 185;refine (cM _).mono ?_;rintro e w1 ⟨rfl,hKb⟩;have hK1:aa [] (wr.alloc (.cells #[.string (ak x.p),.bool x.g,.int .u64 x.d] 60)) w1:=(aa.refl [] _).drew.trans hKb (by simp))
        | (go_at_call 186;refine (cH _ ?_).mono ?_;exact hKa.trans hK1 (by simp);rintro e w2 ⟨rfl,hKc⟩;replace hK1:=hK1.trans hKc (by simp)))
     have HK1:Hid (aa [] w w2):=(HK.out.trans hKa (by simp)).trans hK1 (by simp);clear hKa hKb hKc hK1 c0 c1 c2 d0 d1 d2 cM cH;(go_wp2_with fail);go_roundw
     case rel=>exact ⟨k+1,by omega,by go_num,HK1,HE⟩
     case measure=>simp [intOf];omega
    ·have HE:Hid (R=1):=by
      show R=1;rw [HR.out];refine dP fun h=>?_;obtain ⟨i,hi,hik,e⟩:=zU hha;rw [HX.out] at e;exact (h.2.2 k hlt).2 i hik e
     rw [hha] at cH;clear hma hha;go_wp2_with fail
     go_region_held3 (fun w'=>w'.cell? ⟨wr.heap.size,0,none⟩=some (.string (ak x.p))∧w'.cell? ⟨wr.heap.size,1,none⟩=some (.bool x.g)∧w'.cell? ⟨wr.heap.size,2,none⟩=some (.int .u64 x.d))
      (first | go_keep | exact ⟨hK1.cell d0 (by simp),hK1.cell d1 (by simp),hK1.cell d2 (by simp)⟩)
      (first
        | (go_at_call 185;refine (cM _).mono ?_;rintro e w1 ⟨rfl,hKb⟩;have hK1:aa [] (wr.alloc (.cells #[.string (ak x.p),.bool x.g,.int .u64 x.d] 60)) w1:=(aa.refl [] _).drew.trans hKb (by simp))
        | (go_at_call 186;refine (cH _ ?_).mono ?_;exact hKa.trans hK1 (by simp);rintro e w2 ⟨rfl,hKc⟩;replace hK1:=hK1.trans hKc (by simp)))
     have HK1:Hid (aa [] w w2):=(HK.out.trans hKa (by simp)).trans hK1 (by simp);clear hKa hKb hKc hK1 c0 c1 c2 d0 d1 d2 cM cH;(go_wp2_with fail);go_ret
     exact ⟨by rw [HE.out];rfl,HK1.out⟩
  ·have hlt':¬ (k:Int) < L.length:=by omega
   have HE:Hid (R=0):=by
    show R=0;rw [HR.out];exact ia ⟨by omega,by omega,fun i hi=>HN.out i hi (by omega)⟩
   (go_wp2_with fail);go_ret
   exact ⟨by rw [HE.out];rfl,HK.out⟩
end Go.Proofs.YtgpnlidnbldiiaaGreat
