/-
  Texts laid as one.
-/
import Derived.Test.YtgpnlidnbldiiaaGreatQ8r
import Derived.Test.YtgpnlidnbldiiaaGreatW9r
import Derived.Deep.CutRange
import Derived.Laws.AppendOwnNone
set_option maxHeartbeats 8000000
/-
 The document's own Check.
-/
namespace Go.Proofs.YtgpnlidnbldiiaaGreat
open Go.RowKit
def Du (L:List Ch) (i:Nat):Prop:=∀ q (hq:q < L.length),q < i→fk L[q]=true∧∀ k (hk:k < q),L[k].p≠L[q].p
def DZ (w:World) (L:List Ch) (bv iv:Value) (wr:World):Prop :=
 ∃ (i:Nat) (B:Bool),bv=.bool B∧iv=.int .i64 i∧i≤L.length∧(B=true→¬ cQ L)∧(B=false→Du L i)∧aa [] w wr
def DO (w:World) (L:List Ch) (x:Ch) (i:Nat) (bv kv:Value) (wr:World):Prop :=
 ∃ (k:Nat) (B:Bool),bv=.bool B∧kv=.int .i64 k∧k≤i∧(B=true↔(fk x=false∨∃ j,∃ (hj:j < L.length),j < k∧L[j].p=x.p))∧aa [] w wr
theorem tQ (L:List Ch) (x:Ch):(!fk x)=true↔(fk x=false∨∃ j,∃ (hj:j < L.length),j < 0∧L[j].p=x.p):=by
 constructor
 ·intro h;exact .inl (by simpa using h)
 ·rintro (h | ⟨j,_,h,_⟩)
  ·rw [h];rfl
  ·omega
theorem lE (w:World) (ao:Option Addr) (n c:Nat) (L:List Ch) (hS:di w ao n c L) (hp:∀ x∈L,x.p.length≤1000000000) :
 Calls Tryz.prog 141 #[.slice ao n c] w fun e w'=>e=.returned (.int .i64 (gy L))∧aa [] w w':=by
 have hl:=hS.1;subst hl;have hc:=hS.2.1;have hm:=hS.2.2.1;unfold maxLen at hm;by_cases h0:L.length=0
 ·rw [dP (fun h=>by have:=h.1;omega)];have e0:L=[]:=by simpa using h0
  subst e0;clear hS;go_enter Tryz.func141,Tryz.ntmps141;(go_wp2_with fail);refine wp_loop_rounds 1 ?_;rw [rounds_succ];(go_wp2_with fail);go_ret
  exact ⟨rfl,aa.refl _ _⟩
 have h0':((L.length:Int)==0)=false:=by simp [h0]
 have hpos:(0:Int) < L.length:=by omega
 by_cases h1:16 < L.length
 ·rw [dP (fun h=>by have:=h.2.1;omega)];have h1':(16:Int) < L.length:=by omega
  clear hS;go_enter Tryz.func141,Tryz.ntmps141;(go_wp2_with fail);refine wp_loop_rounds 1 ?_;rw [rounds_succ];(go_wp2_with fail);go_ret
  exact ⟨rfl,aa.refl _ _⟩
 have h1':¬ (16:Int) < L.length:=by omega
 obtain ⟨b,o,hao,_⟩:=hS.some (by omega);subst hao;have HS:Hid (di w (some ⟨b,o,none⟩) L.length c L):=hS;have HP:Hid (∀ x∈L,x.p.length≤1000000000):=hp;obtain ⟨R,hR⟩:∃ R,R=gy L:=⟨_,rfl⟩;rw [← hR];have HR:Hid (R=gy L):=hR;clear hS hp hR;go_enter Tryz.func141,Tryz.ntmps141;go_wp2_with fail
 go_loopw [3,4] (fun bv iv wr=>DZ w L bv iv wr) (fun _ iv _=>L.length - (intOf iv).toNat)
 case atStart=>exact ⟨0,false,rfl,rfl,Nat.zero_le _,(fun h=>by cases h),fun _ q _ h=>by omega,aa.refl _ _⟩
 case round =>
  obtain ⟨i,B,rfl,rfl,hi,hb1,hb2,hK'⟩:=hrel;have HK:Hid (aa [] w wr):=hK';clear hK';cases B with
  | true =>
    have HE:Hid (R=1):=by show R=1;rw [HR.out];exact dP (hb1 rfl)
    clear hb1 hb2;by_cases hlt:i < L.length
    ·have hlt':(i:Int) < L.length:=by omega
     (go_wp2_with fail);go_ret
     exact ⟨by rw [HE.out];rfl,HK.out⟩
    ·have hlt':¬ (i:Int) < L.length:=by omega
     (go_wp2_with fail);go_ret
     exact ⟨by rw [HE.out];rfl,HK.out⟩
  | false =>
    have HO:Hid (Du L i):=hb2 rfl;clear hb1 hb2;by_cases hlt:i < L.length
    ·have hlt':(i:Int) < L.length:=by omega
     obtain ⟨g',o',hao,hx⟩:=HS.out.2.2.2 i hlt;obtain ⟨rfl,rfl⟩:b=g'∧o=o':=by simpa using hao
     obtain ⟨x,hxe⟩:∃ x,x=L[i]:=⟨_,rfl⟩;have HX:Hid (x=L[i]):=hxe;rw [← hxe] at hx;have hxw:=hx.kept HK.out (by simp);have c0:=hxw.c0;have hxp:x.p.length≤1000000000:=by rw [hxe];exact HP.out _ (List.getElem_mem hlt)
     have cN:=fun W=>kn x.p W hxp;have HXW:Hid (j5 wr b (o+i*3) x):=hxw;clear hx hxe hao hxp hxw;(go_wp2_with fail);refine (cN _).mono ?_;rintro e w2 ⟨rfl,hK2⟩;have HK2:Hid (aa [] w w2):=HK.out.trans hK2 (by simp);obtain ⟨c0,c1,c2⟩:=HXW.out.kept hK2 (by simp);clear cN hK2 HXW
     obtain ⟨P1,P2,hP,hPv⟩:∃ P1 P2,rA (dJ x.p)=.tuple #[.string P1,.bool P2]∧fk x=((P2 && (P1.toList==(ak x.p).toList)) && !(x.g && !(x.d==0))):=by
      cases hn:dJ x.p with
      | none=>exact ⟨_,_,rfl,by unfold fk;rw [hn];simp⟩
      | some q=>exact ⟨_,_,rfl,by unfold fk;rw [hn,dl];simp⟩
     rw [hP];have HPV:Hid (fk x=((P2 && (P1.toList==(ak x.p).toList)) && !(x.g && !(x.d==0)))):=hPv;clear hP hPv;go_upto_region 6 with fail
     go_cut [3] from 35 to 60 (fun s3 wx=>s3=.bool (!fk x)∧w2=wx)
     case first =>
      obtain ⟨r,hr⟩:∃ r,(P1.toList==(ak x.p).toList)=r:=⟨_,rfl⟩
      have HV:Hid (fk x=((P2 && r) && !(x.g && !(x.d==0)))):=by
       show fk x=((P2 && r) && !(x.g && !(x.d==0)));rw [HPV.out,hr]
      obtain ⟨xp,xg,xd⟩:=x;simp only at c0 c1 c2 hr;cases P2
      ·(go_wp2_with fail);go_meet
       exact ⟨by rw [HV.out];simp,rfl⟩
      ·cases r
       ·have hr2:(P1.toList != (ak xp).toList)=true:=by rw [bne,hr];rfl
        (go_wp2_with fail);go_meet
        exact ⟨by rw [HV.out];simp,rfl⟩
       ·have hr2:(P1.toList != (ak xp).toList)=false:=by rw [bne,hr];rfl
        cases xg
        ·(go_wp2_with fail);go_meet
         exact ⟨by rw [HV.out];simp,rfl⟩
        ·(go_wp2_with fail);go_meet
         exact ⟨by rw [HV.out];simp [bne],rfl⟩
     case rest =>
      obtain ⟨rfl,rfl⟩:=hcut;(go_wp2_with fail);go_loopw [3,7] (fun bv kv wr=>DO w L x i bv kv wr) (fun _ kv _=>i - (intOf kv).toNat)
      case atStart=>exact ⟨0,!fk x,rfl,rfl,Nat.zero_le _,tQ L x,HK2.out⟩
      case round =>
       obtain ⟨k,B,rfl,rfl,hk,hB,hK'⟩:=hrel;have HK3:Hid (aa [] w wr):=hK';have HB:Hid (B=true↔(fk x=false∨∃ j,∃ (hj:j < L.length),j < k∧L[j].p=x.p)):=hB;clear hK' hB;by_cases hki:k < i
       ·have hki':(k:Int) < i:=by omega
        obtain ⟨g1,o1,e1,hy⟩:=HS.out.2.2.2 k (by omega);obtain ⟨g2,o2,e2,hx⟩:=HS.out.2.2.2 i hlt;obtain ⟨rfl,rfl⟩:b=g1∧o=o1:=by simpa using e1
        obtain ⟨rfl,rfl⟩:b=g2∧o=o2:=by simpa using e2
        have d0:=(hy.kept HK3.out (by simp)).c0;have f0:=(hx.kept HK3.out (by simp)).c0;have hkn:(k:Int) < L.length:=by omega
        rw [← HX.out] at f0;have he:=dl (L[k]'(by omega)).p x.p;obtain ⟨r,hr⟩:∃ r,decide ((L[k]'(by omega)).p=x.p)=r:=⟨_,rfl⟩;rw [hr] at he
        have HN:Hid ((B || r)=true↔(fk x=false∨∃ j,∃ (hj:j < L.length),j < k+1∧L[j].p=x.p)):=by
         show (B || r)=true↔_;rw [Bool.or_eq_true,HB.out,← hr];constructor
         ·rintro ((h | ⟨j,hj,h,e⟩) | h)
          ·exact .inl h
          ·exact .inr ⟨j,hj,by omega,e⟩
          ·exact .inr ⟨k,by omega,by omega,by simpa using h⟩
         ·rintro (h | ⟨j,hj,h,e⟩)
          ·exact .inl (.inl h)
          ·by_cases ejk:j=k
           ·subst ejk;exact .inr (by simpa using e)
           ·exact .inl (.inr ⟨j,hj,by omega,e⟩)
        clear hr hy hx e1 e2;cases B with
        | true =>
          (go_wp2_with fail);go_region
          (go_wp2_with fail);go_roundw
          case rel=>exact ⟨k+1,true || r,by simp,by go_num,by omega,HN.out,HK3.out.drew⟩
          case measure=>simp [intOf];omega
        | false =>
          (go_wp2_with fail);go_region
          (go_wp2_with fail);go_roundw
          case rel=>exact ⟨k+1,false || r,by simp,by go_num,by omega,HN.out,HK3.out.drew⟩
          case measure=>simp [intOf];omega
       ·have hki':¬ (k:Int) < i:=by omega
        (go_wp2_with fail);go_roundw
        case rel =>
         have h5:=HB.out;rw [show k=i by omega] at h5;refine ⟨i+1,B,rfl,by go_num,by omega,fun hb h=>?_,fun hb q hq hqi=>?_,HK3.out⟩
         ·have h6:=h.2.2 i hlt;rw [← HX.out] at h6;rcases h5.1 hb with h7 | ⟨j,hj,hji,e⟩
          ·rw [h6.1] at h7;cases h7
          ·exact h6.2 j hji e
         ·by_cases e:q=i
          ·subst e;have h7:¬ (fk x=false∨∃ j,∃ (hj:j < L.length),j < q∧L[j].p=x.p):=fun h=>by rw [h5.2 h] at hb;cases hb
           rw [← HX.out];refine ⟨?_,fun j hj e=>h7 (.inr ⟨j,by omega,hj,e⟩)⟩;cases h8:fk x with
           | true=>rfl
           | false=>exact absurd (.inl h8) h7
          ·exact HO.out q hq (by omega)
        case measure=>simp [intOf];omega
    ·have hlt':¬ (i:Int) < L.length:=by omega
     have HE:Hid (R=0):=by
      show R=0;rw [HR.out];exact ia ⟨by omega,by omega,fun q hq=>HO.out q hq (by omega)⟩
     (go_wp2_with fail);go_ret
     exact ⟨by rw [HE.out];rfl,HK.out⟩
theorem ta {x:Ch}{M:List Ch}{k:Nat}(hk:k≤M.length) (h1:∀ j (hj:j < M.length),j < k→aA M[j].p x.p≤0) (h2:∀ (hj:k < M.length),0 < aA M[k].p x.p):gW x M=M.take k++[x]++M.drop k:=by
 induction M generalizing k with
 | nil=>simp at hk;subst hk;rfl
 | cons y M ih =>
   cases k with
   | zero =>
     have h3:=h2 (by simp);simp only [gW];rw [if_neg (by simpa using h3)];rfl
   | succ k =>
     have h3:=h1 0 (by simp) (by omega);simp only [gW];rw [if_pos (by simpa using h3)];rw [ih (k:=k) (by simpa using hk) (fun j hj hjk=>h1 (j+1) (by simpa using hj) (by omega)) (fun hj=>h2 (by simpa using hj))];rfl
def DQ (w:World) (L:List Ch) (ov iv:Value) (wr:World):Prop :=
 ∃ i:Nat,iv=.int .i64 i∧i≤L.length∧aP w.heap.size wr ov (an (L.take i))∧(i=0→ov=.slice none 0 0)∧aa [] w wr
def Eg (w:World) (M:List Ch) (x:Ch) (kv:Value) (wr:World):Prop :=
 ∃ k:Nat,kv=.int .i64 k∧k≤M.length∧(∀ j (hj:j < M.length),k≤j→0 < aA M[j].p x.p)∧aa [] w wr
theorem wN {L:List Ch}{i:Nat}(hi:i < L.length):an (L.take (i+1))=gW L[i] (an (L.take i)):=by
 rw [List.take_succ_eq_append_getElem hi,na]
theorem oL {x:Ch}{M:List Ch}{k:Nat}(hR:sI M) (hk:k≤M.length) (h1:k=0∨∃ j,∃ (hj:j < M.length),k=j+1∧aA M[j].p x.p≤0) (h2:∀ j (hj:j < M.length),k≤j→0 < aA M[j].p x.p):gW x M=M.take k++[x]++M.drop k:=by
 refine ta hk (fun j hj hjk=>?_) (fun hj=>h2 k hj (Nat.le_refl _));rcases h1 with h1 | ⟨q,hq,e,h3⟩
 ·omega
 ·by_cases ejq:j=q
  ·subst ejq;exact h3
  ·unfold sI at hR;rw [List.pairwise_iff_getElem] at hR;exact kf (hR j q hj hq (by omega)) h3
set_option maxRecDepth 100000 in
theorem ku (w:World) (ao:Option Addr) (n c:Nat) (L:List Ch) (hS:di w ao n c L) (hn:n≤1000000) (hp:∀ x∈L,x.p.length≤100000000000) :
 Calls Tryz.prog 142 #[.slice ao n c] w fun e w'=>∃ v,e=.returned v∧aP w.heap.size w' v (an L)∧aa [] w w':=by
 have hl:=hS.1;subst hl;have hc:=hS.2.1;have hm:=hS.2.2.1;unfold maxLen at hm;obtain ⟨i0,hi0,hz0,hz1,hz2⟩:=info_parts iJ;have HS:Hid (di w ao L.length c L):=hS;have HP:Hid (∀ x∈L,x.p.length≤100000000000):=hp;clear hS hp;go_enter Tryz.func142,Tryz.ntmps142;go_wp2_with fail
 go_loopw [3,4] (fun ov iv wr=>DQ w L ov iv wr) (fun _ iv _=>L.length - (intOf iv).toNat)
 case atStart=>exact ⟨0,rfl,Nat.zero_le _,aP.nil _ _,fun _=>rfl,aa.refl _ _⟩
 case round =>
  obtain ⟨i,rfl,hi,hO',hv',hK'⟩:=hrel;by_cases hlt:i < L.length
  ·have hlt':(i:Int) < L.length:=by omega
   obtain ⟨b,o,hao,hx⟩:=HS.out.2.2.2 i hlt;subst hao;obtain ⟨x,hxe⟩:∃ x,x=L[i]:=⟨_,rfl⟩;have HN:Hid (an (L.take (i+1))=gW x (an (L.take i))):=by show _=_;rw [hxe];exact wN hlt
   rw [← hxe] at hx;have hxp:x.p.length≤100000000000:=by rw [hxe];exact HP.out _ (List.getElem_mem hlt)
   have HX:Hid (j5 w b (o+i*3) x):=hx;have hML:(an (L.take i)).length=i:=by rw [qm,List.length_take];omega
   have hMp:∀ y∈an (L.take i),y.p.length≤100000000000:=fun y hy=>HP.out y (List.mem_of_mem_take (((eE _).mem y).2 hy));have HMR:Hid (sI (an (L.take i))):=je _;generalize an (L.take i)=M at *;clear hx hxe;by_cases hi0':i=0
   ·subst hi0';obtain rfl:M=[]:=by simpa using hML
    obtain rfl:=hv' rfl;have HK:Hid (aa [] w wr):=hK';have hA:=(aa.refl [] wr).alloc (.cells #[] 60);obtain ⟨c0,c1,c2⟩:=(HX.out.kept HK.out (by simp)).kept hA (by simp);rw [Nat.zero_mul,Nat.add_zero] at c0 c1 c2;have hO0:=fw wr wr.heap.size (Nat.le_refl _);clear hO' hv' hK' hMp HMR hML;(go_wp2_with fail);refine wp_loop_rounds 1 ?_;rw [rounds_succ];(go_wp2_with fail);go_region
    go_wp2_with (at_builtin;refine dV rfl _ _ rfl wr.heap.size (.slice (some ⟨wr.heap.size,0,none⟩) 0 0) [] rfl ?a1 ⟨wr.heap.size+1,0,none⟩ 1 1 [x] rfl rfl ?a2 (by simp) ?a3 ?a4)
    case a1=>exact aP.kept (World.ownsRow.alloc hO0 _) ((aa.refl [] _).drew)
    case a2 =>
     have hB:=di.lit (wr.alloc (.cells #[] 60)) [x] (n:=1) rfl (by simp [maxLen]) (vs:=#[.string (ak x.p),.bool x.g,.int .u64 x.d]) rfl;rw [World.size_alloc] at hB;exact (hB.kept ((aa.refl [] _).drew) (by simp)).runs'
    case a3=>exact ((hA.alloc _).drew).size
    case a4 =>
     intro v2 w2 hO2 hg2;have hK2:aa [] wr w2:=bI ((hA.alloc _).drew) (aP.kept (World.ownsRow.alloc hO0 _) ((aa.refl [] _).drew)) (Nat.le_refl _) hg2;have HO2:Hid (aP wr.heap.size w2 v2 [x]):=hO2;clear hg2 hO2 hO0 hA;(go_wp2_with (at_builtin;refine wpList_append_own_none rfl _ _ 41 rfl wr.heap.size 60 i0 3 Tryz.underlying41 hi0 _ 1 _ rfl HO2.out rfl ?_));go_roundw
     case rel =>
      refine ⟨1,by go_num,by omega,?_,by omega,HK.out.trans hK2 (by simp)⟩;rw [HN.out];exact HO2.out.mono HK.out.size
     case measure=>simp [intOf];omega
   ·obtain ⟨g,cap,hv3,hg,_⟩:=hO'.row (by omega) ⟨[],false,0⟩;subst hv3;have HT':Hid (di wr (some ⟨g,0,none⟩) M.length cap M):=hO'.slice;have HK':Hid (aa [] w wr):=hK';have HML:Hid (M.length=i):=hML;have hMn:M.length≤1000000:=by omega
    have hMc:M.length≤cap:=hO'.slice.2.1;have hcm:cap≤9223372036854775807:=by have:=hO'.slice.2.2.1;unfold maxLen at this;omega
    obtain ⟨w0,hw0⟩:∃ w0,w0=wr:=⟨_,rfl⟩;rw [← hw0] at HT' HK';have HW0:Hid (w0=wr):=hw0;clear hO' hv' hK' hML hg hi0';(go_wp2_with fail);go_loopw [5] (fun kv wr=>Eg w0 M x kv wr) (fun kv _=>(intOf kv).toNat)
    case atStart=>exact ⟨M.length,rfl,Nat.le_refl _,fun j hj h=>by omega,by rw [HW0.out];exact aa.refl _ _⟩
    case round =>
     obtain ⟨k,rfl,hk,hgt,hK3'⟩:=hrel;have HT:Hid (di wr (some ⟨g,0,none⟩) M.length cap M):=HT'.out.kept hK3' (by simp);have HK:Hid (aa [] w wr):=HK'.out.trans hK3' (by simp);have HG:Hid (∀ j (hj:j < M.length),k≤j→0 < aA M[j].p x.p):=hgt;have HK0:Hid (aa [] w0 wr):=hK3';clear hgt hK3';by_cases hk0:k=0
     ·have HPL:Hid (gW x M=M.take k++[x]++M.drop k):=oL HMR.out hk (.inl hk0) HG.out;have hd:decide (0 < k)=false:=by simp [hk0]
      have hd':¬ (0:Int) < k:=by omega
      have hA:=(aa.refl [] wr).alloc (.cells #[] 60);have hO0:=fw wr wr.heap.size (Nat.le_refl _);clear hk0 HG HK0;(go_wp2_with fail);go_region
      go_wp2_with (at_builtin;refine dV rfl _ _ rfl wr.heap.size (.slice (some ⟨wr.heap.size,0,none⟩) 0 0) [] rfl ?p7 ⟨g,0,none⟩ k cap (M.take k) rfl (by rw [List.length_take];omega) ?p8 (by rw [List.length_take];simp;omega) ?p9 ?p1)
      case p7=>exact aP.kept hO0 ((aa.refl [] _).drew)
      case p8=>exact ((HT.out.kept (hA.trans ((aa.refl [] _).drew) (by simp)) (by simp)).take hk).runs'
      case p9=>exact (hA.trans ((aa.refl [] _).drew) (by simp)).size
      case p1 =>
       intro v2 w2 hO2 hg2;have hK2:aa [] wr w2:=bI (hA.trans ((aa.refl [] _).drew) (by simp)) (aP.kept hO0 ((aa.refl [] _).drew)) (Nat.le_refl _) hg2;replace hO2:aP wr.heap.size w2 v2 (M.take k):=hO2;clear hg2 hO0 hA;obtain ⟨c0,c1,c2⟩:=(HX.out.kept HK.out (by simp)).kept hK2 (by simp);have hO2':aP wr.heap.size (w2.alloc (.cells #[.string (ak x.p),.bool x.g,.int .u64 x.d] 60)) v2 (M.take k):=World.ownsRow.alloc hO2 _;have HB:Hid (∀ (j:Nat) (u:Value),(List.flatMap iA [x])[j]?=some u→(w2.alloc (.cells #[.string (ak x.p),.bool x.g,.int .u64 x.d] 60)).cell? ((⟨w2.heap.size,0,none⟩:Addr).add j)=some u):=(di.lit w2 [x] (n:=1) rfl (by simp [maxLen]) rfl).runs';have hN2:wr.heap.size≤w2.heap.size:=hK2.size;go_wp2_with (at_builtin;refine dV rfl _ _ rfl wr.heap.size v2 (M.take k) rfl hO2' ⟨w2.heap.size,0,none⟩ 1 1 [x] rfl rfl HB.out (by rw [List.length_take];simp;omega) (by simp;omega) ?p2)
       case p2 =>
        intro v3 w3 hO3 hg3;have hK3:aa [] wr w3:=bI (hK2.alloc _) hO2' (Nat.le_refl _) hg3;have HO3:Hid (aP wr.heap.size w3 v3 (M.take k++[x])):=hO3;have hN3:wr.heap.size≤w3.heap.size:=hK3.size;have HS3:Hid (di w3 (some ⟨g,0,none⟩) M.length cap M):=HT.out.kept hK3 (by simp);clear hg3 hO2 hO2' HB hO3 c0 c1 c2;by_cases hck:cap=k
        ·have HN0:Hid (M.drop k=[]):=List.drop_of_length_le (by have:=HS3.out.2.1;omega);go_wp2_with (at_builtin;refine dV rfl _ _ rfl wr.heap.size v3 (M.take k++[x]) rfl HO3.out ⟨g,0,none⟩ _ _ (M.drop k) rfl ?p3 ?p4 (by simp;omega) hN3 ?p5)
         case p3=>rw [HN0.out];simp;have:=HS3.out.2.1;omega
         case p4=>rw [HN0.out];intro j u hj;simp at hj
         case p5 =>
          intro v4 w4 hO4 hg4;have HK4:Hid (aa [] w w4):=HK.out.trans (bI hK3 HO3.out (Nat.le_refl _) hg4) (by simp)
          have HO4:Hid (aP w.heap.size w4 v4 (an (L.take (i+1)))):=by
           show aP w.heap.size w4 v4 (an (L.take (i+1)));rw [HN.out,HPL.out];simpa using aP.mono hO4 HK.out.size
          clear hO4 hg4;(go_wp2_with fail);go_roundw
          case rel=>exact ⟨i+1,by go_num,by omega,HO4.out,by omega,HK4.out⟩
          case measure=>simp [intOf];omega
        ·have HD3:Hid (∀ (j:Nat) (u:Value),((M.drop k).flatMap iA)[j]?=some u→w3.cell? ((⟨g,k*3,none⟩:Addr).add j)=some u):=by
          have h1:=(HS3.out.drop (k:=k) (by omega)).runs';rw [Nat.zero_add] at h1;exact h1
         have hkc:k≤cap:=by have:=HS3.out.2.1;omega
         go_wp2_with (at_builtin;refine dV rfl _ _ rfl wr.heap.size v3 (M.take k++[x]) rfl HO3.out ⟨g,k*3,none⟩ (M.length - k) (cap - k) (M.drop k) rfl (by simp) HD3.out (by simp;omega) hN3 ?p6)
         case p6 =>
          intro v4 w4 hO4 hg4;have HK4:Hid (aa [] w w4):=HK.out.trans (bI hK3 HO3.out (Nat.le_refl _) hg4) (by simp)
          have HO4:Hid (aP w.heap.size w4 v4 (an (L.take (i+1)))):=by
           show aP w.heap.size w4 v4 (an (L.take (i+1)));rw [HN.out,HPL.out];simpa using aP.mono hO4 HK.out.size
          clear hO4 hg4;(go_wp2_with fail);go_roundw
          case rel=>exact ⟨i+1,by go_num,by omega,HO4.out,by omega,HK4.out⟩
          case measure=>simp [intOf];omega
     ·obtain ⟨j,hj⟩:∃ j,k=j+1:=⟨k - 1,by omega⟩;have HJ:Hid (k=j+1):=hj;have hjM:j < M.length:=by omega
      have hd:decide (0 < k)=true:=by simp;omega
      have hd':(0:Int) < k:=by omega
      have b1:(0:Int)≤j:=by omega
      have b2:(j:Int) < M.length:=by omega
      have b3:(0:Int)≤i:=by omega
      have b5:IntKind.i64.wrap ((k:Int) - 1)=j:=by rw [IntWalk.i64_in _ (by omega)];omega
      have c0:=(HX.out.kept HK.out (by simp)).c0;obtain ⟨g1,o1,e1,hy⟩:=HT.out.2.2.2 j hjM;obtain ⟨rfl,rfl⟩:g=g1∧0=o1:=by simpa using e1
      have d0:=hy.c0;rw [Nat.zero_add] at d0;have cc:=fun W=>jq M[j].p x.p W (hMp _ (List.getElem_mem hjM)) hxp;obtain ⟨y,hye⟩:∃ y,y=M[j]:=⟨_,rfl⟩;have HY:Hid (y=M[j]):=hye;rw [← hye] at d0 cc;clear hj hy e1 hye hk0;go_wp2_with fail
      go_region_held3 (fun w'=>w'.cell? ⟨g,j*3,none⟩=some (.string (ak y.p))∧w'.cell? ⟨b,o+i*3,none⟩=some (.string (ak x.p)))
       (first | go_keep | exact ⟨hK1.cell d0 (by simp),hK1.cell c0 (by simp)⟩)
       (first | (go_at_call 149;refine (cc _).mono ?_;rintro e w1 ⟨rfl,hKb⟩;have hK1:aa [] wr w1:=(aa.refl [] wr).drew.trans hKb (by simp)))
      clear cc c0 d0 hKb;by_cases hgt:0 < aA y.p x.p
      ·have HK2:Hid (aa [] w0 w1):=HK0.out.trans hK1 (by simp)
       have HG2:Hid (∀ q (hq:q < M.length),j≤q→0 < aA M[q].p x.p):=fun q hq h=>by
        by_cases e:q=j
        ·subst e;rw [← HY.out];exact hgt
        ·exact HG.out q hq (by have:=HJ.out;omega)
       clear hK1;(go_wp2_with fail);go_roundw
       case rel=>exact ⟨j,by go_num,by omega,HG2.out,HK2.out⟩
       case measure=>simp [intOf];have:=HJ.out;omega
      ·have HPL:Hid (gW x M=M.take k++[x]++M.drop k):=oL HMR.out hk (.inr ⟨j,hjM,HJ.out,by rw [← HY.out];omega⟩) HG.out;replace HT:Hid (di w1 (some ⟨g,0,none⟩) M.length cap M):=HT.out.kept hK1 (by simp);replace HK:Hid (aa [] w w1):=HK.out.trans hK1 (by simp);have hA:=(aa.refl [] w1).alloc (.cells #[] 60);have hO0:=fw w1 w1.heap.size (Nat.le_refl _);clear HG HK0 hK1 b5;go_wp2_with (at_builtin;refine dV rfl _ _ rfl w1.heap.size (.slice (some ⟨w1.heap.size,0,none⟩) 0 0) [] rfl ?q7 ⟨g,0,none⟩ k cap (M.take k) rfl (by rw [List.length_take];omega) ?q8 (by rw [List.length_take];simp;omega) ?q9 ?q1)
       case q8 =>
        intro j u hj;have h2:=((HT.out.kept hA (by simp)).take hk).runs' j u hj;rw [dd,Nat.zero_add] at h2;exact h2
       case q1 =>
        intro v2 w2 hO2 hg2;have hK2:aa [] w1 w2:=bI (hA.trans (aa.refl [] _) (by simp)) (aP.kept hO0 (aa.refl [] _)) (Nat.le_refl _) hg2;replace hO2:aP w1.heap.size w2 v2 (M.take k):=hO2;clear hg2 hO0 hA;obtain ⟨c0,c1,c2⟩:=(HX.out.kept HK.out (by simp)).kept hK2 (by simp);have hO2':aP w1.heap.size (w2.alloc (.cells #[.string (ak x.p),.bool x.g,.int .u64 x.d] 60)) v2 (M.take k):=World.ownsRow.alloc hO2 _;have HB:Hid (∀ (j:Nat) (u:Value),(List.flatMap iA [x])[j]?=some u→(w2.alloc (.cells #[.string (ak x.p),.bool x.g,.int .u64 x.d] 60)).cell? ((⟨w2.heap.size,0,none⟩:Addr).add j)=some u):=(di.lit w2 [x] (n:=1) rfl (by simp [maxLen]) rfl).runs';have hN2:w1.heap.size≤w2.heap.size:=hK2.size;go_wp2_with (at_builtin;refine dV rfl _ _ rfl w1.heap.size v2 (M.take k) rfl hO2' ⟨w2.heap.size,0,none⟩ 1 1 [x] rfl rfl HB.out (by rw [List.length_take];simp;omega) (by simp;omega) ?q2)
        case q2 =>
         intro v3 w3 hO3 hg3;have hK3:aa [] w1 w3:=bI (hK2.alloc _) hO2' (Nat.le_refl _) hg3;have HO3:Hid (aP w1.heap.size w3 v3 (M.take k++[x])):=hO3;have hN3:w1.heap.size≤w3.heap.size:=hK3.size;have HS3:Hid (di w3 (some ⟨g,0,none⟩) M.length cap M):=HT.out.kept hK3 (by simp);clear hg3 hO2 hO2' HB hO3 c0 c1 c2;by_cases hck:cap=k
         ·have HN0:Hid (M.drop k=[]):=List.drop_of_length_le (by have:=HS3.out.2.1;omega);go_wp2_with (at_builtin;refine dV rfl _ _ rfl w1.heap.size v3 (M.take k++[x]) rfl HO3.out ⟨g,0,none⟩ _ _ (M.drop k) rfl ?q3 ?q4 (by simp;omega) hN3 ?q5)
          case q3=>rw [HN0.out];simp;have:=HS3.out.2.1;omega
          case q4=>rw [HN0.out];intro j u hj;simp at hj
          case q5 =>
           intro v4 w4 hO4 hg4;have HK4:Hid (aa [] w w4):=HK.out.trans (bI hK3 HO3.out (Nat.le_refl _) hg4) (by simp)
           have HO4:Hid (aP w.heap.size w4 v4 (an (L.take (i+1)))):=by
            show aP w.heap.size w4 v4 (an (L.take (i+1)));rw [HN.out,HPL.out];simpa using aP.mono hO4 HK.out.size
           clear hO4 hg4;(go_wp2_with fail);go_roundw
           case rel=>exact ⟨i+1,by go_num,by omega,HO4.out,by omega,HK4.out⟩
           case measure=>simp [intOf];omega
         ·have HD3:Hid (∀ (j:Nat) (u:Value),((M.drop k).flatMap iA)[j]?=some u→w3.cell? ((⟨g,k*3,none⟩:Addr).add j)=some u):=by
           have h1:=(HS3.out.drop (k:=k) (by omega)).runs';rw [Nat.zero_add] at h1;exact h1
          have hkc:k≤cap:=by have:=HS3.out.2.1;omega
          go_wp2_with (at_builtin;refine dV rfl _ _ rfl w1.heap.size v3 (M.take k++[x]) rfl HO3.out ⟨g,k*3,none⟩ (M.length - k) (cap - k) (M.drop k) rfl (by simp) HD3.out (by simp;omega) hN3 ?q6)
          case q6 =>
           intro v4 w4 hO4 hg4;have HK4:Hid (aa [] w w4):=HK.out.trans (bI hK3 HO3.out (Nat.le_refl _) hg4) (by simp)
           have HO4:Hid (aP w.heap.size w4 v4 (an (L.take (i+1)))):=by
            show aP w.heap.size w4 v4 (an (L.take (i+1)));rw [HN.out,HPL.out];simpa using aP.mono hO4 HK.out.size
           clear hO4 hg4;(go_wp2_with fail);go_roundw
           case rel=>exact ⟨i+1,by go_num,by omega,HO4.out,by omega,HK4.out⟩
           case measure=>simp [intOf];omega
  ·have hlt':¬ (i:Int) < L.length:=by omega
   have HO:Hid (aP w.heap.size wr u3 (an L)):=by
    rw [List.take_of_length_le (by omega)] at hO';exact hO'
   have HK:Hid (aa [] w wr):=hK';clear hO' hv' hK';(go_wp2_with fail);go_ret
   exact ⟨_,rfl,HO.out,HK.out⟩
end Go.Proofs.YtgpnlidnbldiiaaGreat
