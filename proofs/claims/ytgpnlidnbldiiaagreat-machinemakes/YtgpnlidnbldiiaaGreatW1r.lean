/-
  Texts laid as one.
-/
import Derived.Test.YtgpnlidnbldiiaaGreatQ18r
import Derived.Test.YtgpnlidnbldiiaaGreatQ19r
import Derived.Test.YtgpnlidnbldiiaaGreatLay
import Derived.Test.YtgpnlidnbldiiaaGreatQ9r
import Derived.Test.YtgpnlidnbldiiaaGreatQ11r
import Derived.Handy
import Derived.Test.YtgpnlidnbldiiaaGreatQ2r
import Derived.Test.YtgpnlidnbldiiaaGreatW6r
import Derived.Test.YtgpnlidnbldiiaaGreatEdAtr
import Derived.Test.YtgpnlidnbldiiaaGreatW0r
set_option maxHeartbeats 16000000
set_option maxRecDepth 100000
/-
 Room: are requests few and small?
-/
namespace Go.Proofs.YtgpnlidnbldiiaaGreat
open Go.RowKit
def ou (k:Nat) (D:List Rm):Prop:=D.length≤k∧∀ x∈D,DG x.r
noncomputable def lC (k:Nat) (D:List Rm):Bool:=@decide (ou k D) (Classical.propDecidable _)
theorem mU {k:Nat}{D:List Rm}:lC k D=true↔ou k D:=by unfold lC;exact @decide_eq_true_iff _ (Classical.propDecidable _)
theorem mu {k:Nat}{D:List Rm}(h:ou k D):lC k D=true:=mU.2 h
theorem fE {k:Nat}{D:List Rm}(h:¬ ou k D):lC k D=false:=by
 cases e:lC k D with
 | false=>rfl
 | true=>exact absurd (mU.1 e) h
def EL (D:List Rm) (iv:Value):Prop:=∃ i:Nat,iv=.int .i64 (i:Int)∧i≤D.length∧Hid (∀ j (h:j < D.length),j < i→DG D[j].r)
def EN (x:Rm) (jv:Value):Prop:=∃ j:Nat,jv=.int .i64 (j:Int)∧j≤x.r.c.length∧Hid (∀ q (h:q < x.r.c.length),q < j→x.r.c[q].p.length≤300)
theorem nw (w:World) (ao:Option Addr) (n c:Nat) (D:List Rm) (hS:BO w ao n c D) (mk:Nat) :
 Calls Tryz.prog 7 #[.slice ao n c,.int .i64 (mk:Int)] w fun r w'=>r=.returned (.bool (lC mk D))∧w'=w:=by
 have hl:=hS.1;subst hl;have hc:=hS.2.1;have hm:=hS.2.2.1;unfold maxLen at hm;obtain ⟨R,hR⟩:∃ R,R=lC mk D:=⟨_,rfl⟩;rw [← hR];have HR:Hid (R=lC mk D):=hR;have HS:Hid (BO w ao D.length c D):=hS;clear hR hS;by_cases h1:mk < D.length
 ·have h1':(mk:Int) < D.length:=by omega
  have HE:Hid (R=false):=by show R=_;rw [HR.out];exact fE fun h=>by have:=h.1;omega
  go_enter Tryz.func7,Tryz.ntmps7;(go_wp2_with fail);go_ret
  exact ⟨by rw [HE.out];rfl,rfl⟩
 ·have h1':¬ (mk:Int) < D.length:=by omega
  go_enter Tryz.func7,Tryz.ntmps7;(go_wp2_with fail);go_loop [5] (fun iv=>EL D iv) (fun iv=>D.length - (intOf iv).toNat)
  case atStart=>exact ⟨0,rfl,Nat.zero_le _,fun j h h2=>by omega⟩
  case round =>
   obtain ⟨i,rfl,hi,HI⟩:=hrel;by_cases hlt:i < D.length
   ·have hlt':(i:Int) < D.length:=by omega
    have hic:i≤c:=by omega
    obtain ⟨g,o,rfl,hx⟩:=HS.out.2.2.2.1 i hlt;have hsl:=(HS.out.2.2.2.2 D[i] (List.getElem_mem hlt)).1;obtain ⟨x,hxe⟩:∃ x,x=D[i]:=⟨_,rfl⟩;rw [← hxe] at hx hsl;have HX:Hid (x=D[i]):=hxe;obtain ⟨c0,c1,c2,c3,c4,c5,c6,c7,c8,c9,c10⟩:=hx;have hml:=hsl.1;have hmc:=hsl.2.1;have hmm:=hsl.2.2.1;unfold maxLen at hmm;have HL:Hid (di w x.mo x.m x.mc x.r.c):=hsl;have hsn:(ak x.r.n).size=x.r.n.length:=bw _;have hsf:(ak x.r.f).size=x.r.f.length:=bw _;have hsp:(ak x.r.p).size=x.r.p.length:=bw _;clear hxe hsl c0 c2 c3 c4 c8 c9 c10;by_cases hn3:300 < x.r.n.length
    ·have hn3':(300:Int) < x.r.n.length:=by omega
     have HE:Hid (R=false):=by show R=_;rw [HR.out];exact fE fun h=>by have:=(h.2 D[i] (List.getElem_mem hlt)).1;rw [← HX.out] at this;omega
     (go_wp2_with fail);go_ret
     exact ⟨by rw [HE.out];rfl,rfl⟩
    ·have hn3':¬ (300:Int) < x.r.n.length:=by omega
     by_cases hf3:300 < x.r.f.length
     ·have hf3':(300:Int) < x.r.f.length:=by omega
      have HE:Hid (R=false):=by show R=_;rw [HR.out];exact fE fun h=>by have:=(h.2 D[i] (List.getElem_mem hlt)).2.1;rw [← HX.out] at this;omega
      (go_wp2_with fail);go_ret
      exact ⟨by rw [HE.out];rfl,rfl⟩
     ·have hf3':¬ (300:Int) < x.r.f.length:=by omega
      by_cases hp3:300 < x.r.p.length
      ·have hp3':(300:Int) < x.r.p.length:=by omega
       have HE:Hid (R=false):=by show R=_;rw [HR.out];exact fE fun h=>by have:=(h.2 D[i] (List.getElem_mem hlt)).2.2.1;rw [← HX.out] at this;omega
       (go_wp2_with fail);go_ret
       exact ⟨by rw [HE.out];rfl,rfl⟩
      ·have hp3':¬ (300:Int) < x.r.p.length:=by omega
       by_cases hl4:40 < x.m
       ·have hl4':(40:Int) < x.m:=by omega
        have HE:Hid (R=false):=by show R=_;rw [HR.out];exact fE fun h=>by have:=(h.2 D[i] (List.getElem_mem hlt)).2.2.2.1;rw [← HX.out] at this;omega
        (go_wp2_with fail);go_ret
        exact ⟨by rw [HE.out];rfl,rfl⟩
       ·have hl4':¬ (40:Int) < x.m:=by omega
        (go_wp2_with fail);go_loop [6] (fun jv=>EN x jv) (fun jv=>x.m - (intOf jv).toNat)
        case atStart=>exact ⟨0,rfl,Nat.zero_le _,fun j h h2=>by omega⟩
        case round =>
         obtain ⟨j,rfl,hj,HJ⟩:=hrel;by_cases hjl:j < x.m
         ·have hjl':(j:Int) < x.m:=by omega
          have hjc:j≤x.mc:=by omega
          obtain ⟨g2,o2,hmo,hy⟩:=HL.out.2.2.2 j (by omega);obtain ⟨y,hye⟩:∃ y,y=x.r.c[j]'(by omega):=⟨_,rfl⟩;rw [← hye] at hy;have HY:Hid (y=x.r.c[j]'(by omega)):=hye;obtain ⟨d0,d1,d2⟩:=hy;have hsy:(ak y.p).size=y.p.length:=bw _;rw [hmo] at c6;clear hye;by_cases hy3:300 < y.p.length
          ·have hy3':(300:Int) < y.p.length:=by omega
           have HE:Hid (R=false):=by
            show R=_;rw [HR.out];exact fE fun h=>by
             have:=(h.2 D[i] (List.getElem_mem hlt)).2.2.2.2;rw [← HX.out] at this
             have h5:=this y (by rw [HY.out];exact List.getElem_mem _);omega
           clear hmo;(go_wp2_with fail);go_ret
           exact ⟨by rw [HE.out];rfl,rfl⟩
          ·have hy3':¬ (300:Int) < y.p.length:=by omega
           have HJ2:Hid (∀ q (h:q < x.r.c.length),q < j+1→x.r.c[q].p.length≤300):=fun q h h2=>by
            by_cases e:q=j
            ·subst e;rw [← HY.out];omega
            ·exact HJ.out q h (by omega)
           clear hmo;(go_wp2_with fail);go_round
           case rel=>exact ⟨j+1,by go_num,by omega,HJ2⟩
           case measure=>simp [intOf];omega
         ·have hjl':¬ (j:Int) < x.m:=by omega
          have HI2:Hid (∀ q (h:q < D.length),q < i+1→DG D[q].r):=fun q h h2=>by
           by_cases e:q=i
           ·subst e;rw [← HX.out];refine ⟨by omega,by omega,by omega,by omega,fun y hy=>?_⟩;obtain ⟨r,hr,rfl⟩:=List.getElem_of_mem hy;exact HJ.out r hr (by omega)
           ·exact HI.out q h (by omega)
          (go_wp2_with fail);go_round
          case rel=>exact ⟨i+1,by go_num,by omega,HI2⟩
          case measure=>simp [intOf];omega
   ·have hlt':¬ (i:Int) < D.length:=by omega
    have HE:Hid (R=true):=by
     show R=_;rw [HR.out]
     exact mu ⟨by omega,fun x hx=>by
      obtain ⟨j,hj,rfl⟩:=List.getElem_of_mem hx;exact HI.out j hj (by omega)⟩
    (go_wp2_with fail);go_ret
    exact ⟨by rw [HE.out];rfl,rfl⟩
theorem cw.frU {B B':Nat}{F:List Nat}{w w':World}{u:Value}{k:List aV}(h:cw B w u k) (fr:jT B' F w w') (hj:∀ j,u.ownBlock=some j→j ∉ F):cw B w' u k:=by
 obtain ⟨K,hr,ho,he⟩:=h;refine ⟨K,?_,fun x hx=>fr.row (ho x hx) (by decide),he⟩;obtain ⟨U,h1,h2,h3⟩:=fr;refine h1.ownsRow hr fun j hv hm=>?_;obtain ⟨cur,hh⟩:=ar hr hv;rcases h3 j hm (aq hh) with h4 | ⟨_,cur',t,mk,hh',h5⟩
 ·exact hj j hv h4
 ·rw [hh] at hh';cases hh'
  rcases h5 with h5 | h5 <;> simp at h5
open Go.RowKit Go.Maps Go.Sort Go.Shelf
end Go.Proofs.YtgpnlidnbldiiaaGreat
namespace Go.Proofs.YtgpnlidnbldiiaaGreat
open Go.RowKit
variable {w0 w : World} {F D : List Nat} {b : Nat} {p : Pl} {al : Int} {sz : Nat} {m : Ma}
end Go.Proofs.YtgpnlidnbldiiaaGreat
namespace Go.Proofs.YtgpnlidnbldiiaaGreat
open Go.RowKit
def DA (D:List Nat) (l:List Int) (al sz:Int) (w:World) (e:Ending) (w':World):Prop :=
 ((ea l∧1≤al∧al≤8∧1≤sz∧sz≤16)∧∃ (b:Nat) (p:Pl) (M:List Nat),e=.returned (.tuple #[.pointer (some ⟨b,0,none⟩),.int .i64 0])∧aM w w' M D b p al sz.toNat (jj l)) ∨
 (¬ (ea l∧1≤al∧al≤8∧1≤sz∧sz≤16)∧e=.returned (.tuple #[.pointer none,.int .i64 1])∧aa [] w w')
theorem sU {w w1:World}{D:List Nat}(hD:∀ k∈D,k < w.heap.size) {l:List Int}(hl:ea l) {al:Int}(h0:1≤al) (h1:al≤8) {sz:Nat}(hs0:1≤sz) (hs1:sz≤16) {pe:Nat}(hK1:aa [] w w1) (hE:jS w.heap.size w1 pe al [⟨0,l⟩]) :
 aM w ((w1.alloc (.cells #[.int .i64 (sz:Int),.slice none 0 0] 96)).alloc (.cells #[.int .i64 0,.slice none 0 0,.slice none 0 0,.slice none 0 0,.pointer (some ⟨w1.heap.size,0,none⟩),.pointer (some ⟨pe,0,none⟩)] 84)) (dy (w1.heap.size+1) w1.heap.size (.slice none 0 0) (.slice none 0 0)) D (w1.heap.size+1) ⟨pe,w1.heap.size,0⟩ al sz (jj l):=by
 have hKa:aa [] w1 (w1.alloc (.cells #[.int .i64 (sz:Int),.slice none 0 0] 96)):=(aa.refl _ _).alloc _;obtain ⟨w2,hw2⟩:∃ w2,w2=w1.alloc (.cells #[.int .i64 (sz:Int),.slice none 0 0] 96):=⟨_,rfl⟩;have ht:eH (fun k=>k ∉ bf (w1.heap.size+1) (.slice none 0 0)∧k ∉ D) w2 w1.heap.size sz (.slice none 0 0) [] []:=by rw [hw2];exact eH.new w1 sz
 have hz2:w2.heap.size=w1.heap.size+1:=by rw [hw2,World.size_alloc]
 rw [← hw2] at hKa ⊢;clear hw2;have hKb:aa [] w2 (w2.alloc (.cells #[.int .i64 0,.slice none 0 0,.slice none 0 0,.slice none 0 0,.pointer (some ⟨w1.heap.size,0,none⟩),.pointer (some ⟨pe,0,none⟩)] 84)):=(aa.refl _ _).alloc _;have hz1:=hK1.size;have hat:=heap_alloc_new w2 (.cells #[.int .i64 0,.slice none 0 0,.slice none 0 0,.slice none 0 0,.pointer (some ⟨w1.heap.size,0,none⟩),.pointer (some ⟨pe,0,none⟩)] 84);rw [hz2] at hat;refine ⟨.slice none 0 0,.slice none 0 0,.slice none 0 0,[],.slice none 0 0,[],⟨⟨hat,bk.nil _ _,(fun _ h=>by cases h),rfl,World.ownsRow_nil _ _ _ _,World.ownsRow_nil _ _ _ _⟩,(fun _=>.inl rfl),ht.kept hKb,(hE.kept hKa).kept hKb⟩,rfl,(hK1.trans hKa (by simp)).trans hKb (by simp),fun k hk=>?_,fun k hk=>?_,?_,hs0⟩
 ·simp [dy,bf,aW,Value.ownBlock] at hk
  omega
 ·have:=hD k hk
  rw [World.size_alloc];omega
 ·exact ⟨Int.le_refl _,by show (0:Int)≤_;omega,.void,Nat.zero_le _,fun x hx=>by simp [jj] at hx,qt hl,hs1,h0,h1⟩
theorem xE (w:World) (D:List Nat) (hD:∀ k∈D,k < w.heap.size) (ao:Option Addr) (n c:Nat) (l:List Int) (hS:mW w ao n c l) (al sz:Int) :
 Calls Tryz.prog 9 #[.slice ao n c,.int .i64 al,.int .i64 sz] w fun e w'=>DA D l al sz w e w':=by
 have cE:=vZ w ao n c l hS al;have HD:=ah hD;clear hS hD;go_enter Tryz.func9,Tryz.ntmps9;go_wp2_with fail
 refine cE.mono ?_;rintro _ w1 (⟨⟨hl,h0,h1⟩,pe,rfl,hE,hK1⟩ | ⟨hn,rfl,hK1⟩)
 ·have cT:=mh w1 sz;have HE:=ah hE;have HK1:=ah hK1;clear hE hK1 cE;(go_wp2_with fail);refine cT.mono ?_;rintro _ w2 (⟨hs0,hs1,rfl,rfl⟩ | ⟨hn,rfl,rfl⟩)
  ·obtain ⟨zn,rfl⟩:∃ zn:Nat,sz=zn:=⟨sz.toNat,by omega⟩;have HLv:=ah (sU (sz:=zn) HD.out hl h0 h1 (by omega) (by omega) HK1.out HE.out);clear cT;(go_wp2_with fail);go_ret2
   exact .inl ⟨⟨hl,h0,h1,hs0,hs1⟩,_,_,_,rfl,HLv.out⟩
  ·clear cT;(go_wp2_with fail);go_ret2
   exact .inr ⟨fun h=>hn ⟨h.2.2.2.1,h.2.2.2.2⟩,rfl,HK1.out⟩
 ·have HK1:=ah hK1;clear hK1 cE;(go_wp2_with fail);go_ret2
  exact .inr ⟨fun h=>hn ⟨h.1,h.2.1,h.2.2.1⟩,rfl,HK1.out⟩
theorem aM.elder {w00 w0 w:World}{M D:List Nat}{b:Nat}{p:Pl}{al:Int}{sz:Nat}{m:Ma}(h:aM w0 w M D b p al sz m) (k:aa [] w00 w0):aM w00 w M D b p al sz m:=by
 have hz:=k.size;obtain ⟨v,vL,vR,K,vt,X,h1,h2,h3,h4,h5,h6⟩:=h;obtain ⟨v',X',e1,e2,e3,e4,e5⟩:=h1.e;exact ⟨v,vL,vR,K,vt,X,⟨h1.g,h1.nl,h1.t,v',X',by omega,e2,bF e3 hz,(fun x hx=>bF (e4 x hx) hz),e5⟩,h2,k.trans h3 (by simp),fun i hi=>Nat.le_trans hz (h4 i hi),h5,h6⟩
theorem io.stay2 {P Q:Nat→Prop}{S:List Nat}{Ts:List TypeId}{w w':World}{u:Value}{k:List aV}(h:io P w u k) (hk:aa S w w') (hS:∀ j cur,P j→w.heap[j]?=some (.cells cur 137 (0,0))→j ∉ S∧Q j) (hT:aJ w S Ts) (h2:60 ∉ Ts):io Q w' u k:=by
 obtain ⟨⟨K,hr,ho,he⟩,hP⟩:=h;have hb:=fun j (hj:u.ownBlock=some j)=>(ar hr hj).elim fun cur hh=>hS j cur (hP j hj) hh;exact ⟨⟨K,hk.ownsRow hr fun j hj=>(hb j hj).1,fun x hx=>ap hk hT (ho x hx) h2,he⟩,fun j hj=>(hb j hj).2⟩
theorem aM.frp {w0 w w':World}{F F' M:List Nat}{b:Nat}{p:Pl}{al:Int}{sz:Nat}{m:Ma}{B:Nat}(h:aM w0 w M F b p al sz m) (fr:jT B F w w') (k0:aa [] w0 w') (dis:∀ k∈F,k ∉ M) (hF:∀ k∈F',k∈F∨w.heap.size≤k) (hlt:∀ k∈F',k < w'.heap.size):aM w0 w' M F' b p al sz m:=by
 obtain ⟨v,vL,vR,K,vt,X,h1,rfl,h3,h4,h5,h6⟩:=h;obtain ⟨U,g2,hT,g3⟩:=fr
 have hO:∀ i∈dy b p.t v vt,i ∉ U:=fun i hi hm=>by
  rcases g3 i hm (h1.lt i hi) with h | ⟨_,cur,t,mk,hh,ht⟩
  ·exact dis i h hi
  ·rcases List.mem_append.1 hi with hi | hi
   ·have:=h1.g.typed i hi _ _ _ hh
    rcases ht with rfl | rfl <;> simp at this
   ·have:=h1.t.typed i hi _ _ _ hh
    rcases ht with rfl | rfl <;> simp at this
 refine ⟨v,vL,vR,K,vt,X,⟨h1.g.keep g2 (fun i hi=>hO i (by simp [dy,hi])) hT (by decide) (by decide) (by decide),h1.nl,?_,h1.e.keep g2 hT (by decide) (by decide) (by decide)⟩,rfl,k0,h4,hlt,h6⟩;refine ⟨g2.at h1.t.at_ (hO _ (by simp [dy,aW])),g2.ownsRow h1.t.row (fun i hi=>hO i (by simp [dy,aW,hi])),fun x hx=>(h1.t.own x hx).stay2 g2 (fun j cur hj hh=>⟨fun hm=>?_,hj.1,fun hm=>?_⟩) hT (by decide),h1.t.ses⟩
 ·rcases g3 j hm (aq hh) with h | ⟨_,cur',t,mk,hh',ht⟩
  ·exact hj.2 h
  ·rw [hh] at hh';cases hh'
   rcases ht with ht | ht <;> simp at ht
 ·rcases hF j hm with h | h
  ·exact hj.2 h
  ·have:=aq hh;omega
theorem ay.frd {w0 w w':World}{F M M':List Nat}{b:Nat}{p:Pl}{al:Int}{sz:Nat}{m:Ma}{B:Nat}(h:ay w0 w F M b p al sz m) (fr:iB B M w w') (k0:aa [] w0 w') (dis:∀ k∈F,k ∉ M) (hM:∀ k∈M',k∈M∨w.heap.size≤k) (hlt:∀ k∈M',k < w'.heap.size):ay w0 w' F M' b p al sz m:=by
 obtain ⟨S,vt,X,h1,rfl,h3,h4,h5,h6⟩:=h;obtain ⟨U,g2,hT,g3⟩:=fr
 have hO:∀ i∈dD b p.t S vt,i ∉ U:=fun i hi hm=>by
  rcases g3 i hm (h1.lt i hi) with h | ⟨_,cur,t,mk,hh,ht⟩
  ·exact dis i hi h
  ·rcases List.mem_cons.1 hi with rfl | hi
   ·rw [h1.at_] at hh;cases hh
    rcases ht with ht | ht <;> simp at ht
   ·rcases List.mem_append.1 hi with hi | hi
    ·have:=h1.g.typed i hi _ _ _ hh
     rcases ht with rfl | rfl <;> simp at this
    ·obtain ⟨cur',t',hh',ht'⟩:=h1.t.typed hi;rw [hh'] at hh;cases hh
     rcases ht with rfl | rfl <;> simp at ht'
 refine ⟨S,vt,X,⟨g2.at h1.at_ (hO _ (by simp [dD])),h1.g.keep g2 (fun i hi=>hO i (by simp [dD,hi])) hT (by decide) (by decide) (by decide),?_,h1.e.keep g2 hT (by decide) (by decide)⟩,rfl,k0,h4,hlt,h6⟩;refine ⟨g2.at h1.t.at_ (hO _ (by simp [dD,aW])),h1.t.pos,h1.t.row.keep g2 (fun i hi=>hO i (by simp [dD,aW,hi])),fun x hx=>(h1.t.own x hx).stay2 g2 (fun j cur hj hh=>⟨fun hm=>?_,hj.1,fun hm=>?_⟩) hT (by decide),h1.t.ses⟩
 ·rcases g3 j hm (aq hh) with h | ⟨_,cur',t,mk,hh',ht⟩
  ·exact hj.2 h
  ·rw [hh] at hh';cases hh'
   rcases ht with ht | ht <;> simp at ht
 ·rcases hM j hm with h | h
  ·exact hj.2 h
  ·have:=aq hh;omega
theorem ay.dis {w0 w w':World}{F D D':List Nat}{b:Nat}{p:Pl}{al:Int}{sz:Nat}{m:Ma}(h:ay w0 w F D b p al sz m) (k:aa [] w w') (hD:∀ i∈D',i∈D∨w.heap.size≤i) (hlt:∀ i∈D',i < w'.heap.size):ay w0 w' F D' b p al sz m:=by
 obtain ⟨S,vt,X,h1,h2,h3,h4,h5,h6⟩:=h;refine ⟨S,vt,X,⟨k.at h1.at_ (by simp),h1.g.kept k,?_,h1.e.kept k⟩,h2,h3.trans k (by simp),h4,hlt,h6⟩;refine ⟨k.at h1.t.at_ (by simp),h1.t.pos,h1.t.row.keep k (by simp),fun x hx=>(h1.t.own x hx).stay2 k (fun j cur hj hh=>⟨by simp,hj.1,fun hm=>?_⟩) (cm w []) (by simp),h1.t.ses⟩;rcases hD j hm with h | h
 ·exact hj.2 h
 ·have:=aq hh;omega
theorem aM.dis {w0 w w':World}{M D D':List Nat}{b:Nat}{p:Pl}{al:Int}{sz:Nat}{m:Ma}(h:aM w0 w M D b p al sz m) (k:aa [] w w') (hD:∀ i∈D',i∈D∨w.heap.size≤i) (hlt:∀ i∈D',i < w'.heap.size):aM w0 w' M D' b p al sz m:=by
 obtain ⟨v,vL,vR,K,vt,X,h1,h2,h3,h4,h5,h6⟩:=h;refine ⟨v,vL,vR,K,vt,X,⟨h1.g.kept k,h1.nl,?_,h1.e.kept k⟩,h2,h3.trans k (by simp),h4,hlt,h6⟩;refine ⟨k.at h1.t.at_ (by simp),k.ownsRow h1.t.row (by simp),fun x hx=>(h1.t.own x hx).stay2 k (fun j cur hj hh=>⟨by simp,hj.1,fun hm=>?_⟩) (cm w []) (by simp),h1.t.ses⟩;rcases hD j hm with h | h
 ·exact hj.2 h
 ·have:=aq hh;omega
theorem cw.frV {B B':Nat}{M:List Nat}{w w':World}{u:Value}{k:List aV}(h:cw B w u k) (fr:iB B' M w w') (hj:∀ j,u.ownBlock=some j→j ∉ M):cw B w' u k:=by
 obtain ⟨K,hr,ho,he⟩:=h;refine ⟨K,?_,fun x hx=>fr.row (ho x hx) (by decide),he⟩;obtain ⟨U,h1,h2,h3⟩:=fr;refine h1.ownsRow hr fun j hv hm=>?_;obtain ⟨cur,hh⟩:=ar hr hv;rcases h3 j hm (aq hh) with h4 | ⟨_,cur',t,mk,hh',h5⟩
 ·exact hj j hv h4
 ·rw [hh] at hh';cases hh'
  rcases h5 with h5 | h5 <;> simp at h5
structure Pp where
 b:Nat
 p:Pl
 c:Nat
 q:Pl
def qy (w0 w:World) (z:Pp) (al:Int) (sz:Nat) (m md:Ma) (u:Value):Prop :=
 ∃ F M,ay w0 w F M z.b z.p al sz m∧aM w0 w M F z.c z.q al sz md∧(∀ k∈F,k ∉ M)∧∀ j,u.ownBlock=some j→j ∉ F∧j ∉ M
theorem qy.kept {w0 w w':World}{z:Pp}{al:Int}{sz:Nat}{m md:Ma}{u:Value}(h:qy w0 w z al sz m md u) (k:aa [] w w'):qy w0 w' z al sz m md u:=by
 obtain ⟨F,M,h1,h2,h3⟩:=h;exact ⟨F,M,h1.kept k,h2.kept k,h3⟩
theorem qy.keeps {w0 w:World}{z:Pp}{al:Int}{sz:Nat}{m md:Ma}{u:Value}(h:qy w0 w z al sz m md u):aa [] w0 w:=by
 obtain ⟨F,M,h1,_⟩:=h;exact h1.keeps
theorem qy.none {w0 w:World}{z:Pp}{al:Int}{sz:Nat}{m md:Ma}{u:Value}(h:qy w0 w z al sz m md u):qy w0 w z al sz m md (.slice none 0 0):=by
 obtain ⟨F,M,h1,h2,h3,_⟩:=h;exact ⟨F,M,h1,h2,h3,fun j hj=>by cases hj⟩
def AI (w0 w:World) (z:Pp) (al:Int) (sz:Nat) (m md:Ma) (u:Value) (v:Vt) (e:Ending) (w':World):Prop :=
 ∃ ao n c,e=.returned (.agg #[.int .i64 v.c,.int .i64 v.s,.int .i64 v.r,.string (ak v.p),.int .u64 v.d,.slice ao n c,.int .i64 v.m])∧Hid (cw w.heap.size w' (.slice ao n c) v.k)∧Hid (qy w0 w' z al sz m md (.slice ao n c))∧Hid (∀ B k,cw B w u k→cw B w' u k)
theorem qy.deedP {w0 w w':World}{F M:List Nat}{z:Pp}{al:Int}{sz:Nat}{m' md:Ma}{u:Value}{v:Vt}{e:Ending}(h2:aM w0 w M F z.c z.q al sz md) (h3:∀ k∈F,k ∉ M) (h4:∀ j,u.ownBlock=some j→j ∉ F∧j ∉ M) (h:fF w0 w F M z.b z.p al sz v m' e w'):AI w0 w z al sz m' md u v e w':=by
 obtain ⟨ao,n,c,he,hO,F',k1,k2,k3,k4⟩:=h;refine ⟨ao,n,c,he,hO,⟨F',M,k1,h2.frp k2 k1.keeps h3 k3 k1.lt,fun k hk=>?_,fun j hj=>⟨k4 j hj,fun hm=>?_⟩⟩,fun B k hk=>hk.frU k2 fun j hj=>(h4 j hj).1⟩
 ·rcases k3 k hk with h | h
  ·exact h3 k h
  ·intro hm;have:=h2.lt k hm;omega
 ·have:=(il hO hj).1;have:=h2.lt j hm;omega
theorem qy.deedD {w0 w w':World}{F M:List Nat}{z:Pp}{al:Int}{sz:Nat}{m md':Ma}{u:Value}{v:Vt}{e:Ending}(h1:ay w0 w F M z.b z.p al sz m) (h3:∀ k∈F,k ∉ M) (h4:∀ j,u.ownBlock=some j→j ∉ F∧j ∉ M) (h:gP w0 w M F z.c z.q al sz v md' e w'):AI w0 w z al sz m md' u v e w':=by
 obtain ⟨ao,n,c,he,hO,M',k1,k2,k3,k4⟩:=h;refine ⟨ao,n,c,he,hO,⟨F,M',h1.frd k2 k1.keeps h3 k3 k1.lt,k1,fun k hk hm=>?_,fun j hj=>⟨fun hm=>?_,k4 j hj⟩⟩,fun B k hk=>hk.frV k2 fun j hj=>(h4 j hj).2⟩
 ·rcases k3 k hm with h | h
  ·exact h3 k hk h
  ·have:=h1.lt k hk;omega
 ·have:=(il hO hj).1;have:=h1.lt j hm;omega
variable {w0 w : World} {z : Pp} {al : Int} {sz : Nat} {m md : Ma} {u : Value}
theorem wM (h:qy w0 w z al sz m md u) (hl:m.g.cs.length≤10000) (he:m.e.length≤999) (x:Rm) (hx:dE w0 x):Calls Tryz.prog 13 #[.pointer (some ⟨z.b,0,none⟩),eh x] w fun e w'=>AI w0 w z al sz (lH al sz m x.r) md u (qH al m x.r) e w':=by
 obtain ⟨F,M,h1,h2,h3,h4⟩:=h;exact (fY h1 hl (by omega) x (hx.kept h1.keeps)).mono fun e w' hd=>qy.deedP h2 h3 h4 hd
theorem tG (h:qy w0 w z al sz m md u) (hl:md.g.cs.length≤10000) (he:md.e.length≤999) (x:Rm) (hx:dE w0 x):Calls Tryz.prog 14 #[.pointer (some ⟨z.c,0,none⟩),eh x] w fun e w'=>AI w0 w z al sz m (lH al sz md x.r) u (qH al md x.r) e w':=by
 obtain ⟨F,M,h1,h2,h3,h4⟩:=h;exact (ly h2 hl he x hx).mono fun e w' hd=>qy.deedD h1 h3 h4 hd
theorem Bn {w0 w1 w2:World}{F M:List Nat}{b c:Nat}{p q:Pl}{al:Int}{sz:Nat}{m md:Ma}(h1:ay w0 w1 F [] b p al sz m) (h2:aM w1 w2 M F c q al sz md):qy w0 w2 ⟨b,p,c,q⟩ al sz m md (.slice none 0 0):=by
 have hge:∀ k∈M,w1.heap.size≤k:=by obtain ⟨v,vL,vR,K,vt,X,k1,k2,k3,k4,_⟩:=h2;exact k4
 refine ⟨F,M,h1.dis h2.keeps (fun i hi=>.inr (hge i hi)) h2.lt,h2.elder h1.keeps,fun k hk hm=>?_,fun j hj=>by cases hj⟩;have:=hge k hm
 have:=h1.lt k hk
 omega
end Go.Proofs.YtgpnlidnbldiiaaGreat
