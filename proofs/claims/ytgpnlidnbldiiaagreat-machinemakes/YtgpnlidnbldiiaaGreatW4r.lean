/-
  Texts laid as one.
-/
import Derived.Test.YtgpnlidnbldiiaaGreatQ17r
import Derived.Test.YtgpnlidnbldiiaaGreatQ15r
import Derived.Test.YtgpnlidnbldiiaaGreatQ2r
import Derived.Test.YtgpnlidnbldiiaaGreatW5r
set_option maxHeartbeats 8000000
set_option maxRecDepth 100000
set_option linter.unusedSimpArgs false
/-
 The document's own epochs in memory.
-/
namespace Go.Proofs.YtgpnlidnbldiiaaGreat
open Go.RowKit
def jS (B:Nat) (w:World) (p:Nat) (al:Int) (L:List Ep):Prop :=
 ∃ v X,B≤p∧w.heap[p]?=some (.cells #[.int .i64 al,v] 94 (0,0))∧iR B w v X∧iK B w X∧X.map Prod.fst=L
theorem jS.kept {B:Nat}{w w':World}{p:Nat}{al:Int}{L:List Ep}(h:jS B w p al L) (k:aa [] w w'):jS B w' p al L:=by
 obtain ⟨v,X,h1,h2,h3,h4,h5⟩:=h;exact ⟨v,X,h1,k.at h2 (by simp),k.ownsRow h3 (by simp),fun x hx=>k.ownsRow (h4 x hx) (by simp),h5⟩
theorem pF {X:List (Ep × Value)}{L:List Ep}(h:X.map Prod.fst=L) {i:Nat}(hi:i < X.length) (hl:i < L.length):X[i].1=L[i]:=by simp [← h]
theorem jS.open {B:Nat}{w:World}{p:Nat}{al:Int}{L:List Ep}(h:jS B w p al L) (hn:L≠[]) :
 ∃ g cap X,w.heap[p]?=some (.cells #[.int .i64 al,.slice (some ⟨g,0,none⟩) L.length cap] 94 (0,0))∧qB w (some ⟨g,0,none⟩) L.length cap X∧X.map Prod.fst=L∧B≤p∧iR B w (.slice (some ⟨g,0,none⟩) L.length cap) X∧iK B w X:=by
 obtain ⟨v,X,h1,h2,h3,h4,h5⟩:=h;obtain ⟨ao,c,rfl,hS⟩:=h3.sl h4;have hl:X.length=L.length:=by rw [← h5,List.length_map]
 rw [hl] at h2 h3 hS;have hpos:=List.length_pos_iff.2 hn;obtain ⟨b,o,rfl,_⟩:=hS.2.2.2.1 0 (by omega)
 have ho:o=0:=by
  rcases h3.2 with ⟨e,_⟩ | ⟨g,cap,cur,e,_⟩
  ·cases e
  ·simp only [Value.slice.injEq,Option.some.injEq,Addr.mk.injEq] at e;exact e.1.2.1
 subst ho;exact ⟨b,c,X,h2,hS,h5,h1,h3,h4⟩
theorem kW {ops:Array Oper}{a:Act}{w:World}{K:Act→World→Prop}{Q:Exit→Act→World→Prop}{E:Prop}{d:Option Tmp}{s x:Operand}{ty:TypeId}{ps:String}{af:Array Edge}
 (B:Nat) (v:Value) (S T:List Int) (tao:Option Addr) (tn tc:Nat) (hs:a.eval s=v) (hO:bJ B w v S) (hx:a.eval x=.slice tao tn tc) (hT:mW w tao tn tc T) (hne:T≠[]) (hlen:S.length+T.length≤1000000) (hB:B≤w.heap.size)
 (h:∀ g' n cap w',Hid (bJ B w' (.slice (some ⟨g',0,none⟩) n cap) (S++T))→Hid (w.grownBy w' v.ownBlock)→K (a.put d (.slice (some ⟨g',0,none⟩) n cap)) w') :
 if Region.wanted (⟨d,.call { callee:=.builtin .append,args:=#[s,x],argTypes:=#[22,22] },ty,ps,af,none⟩:Oper) (yielded ops a.tmps)=true then Oper.wp Tryz.prog ⟨d,.call { callee:=.builtin .append,args:=#[s,x],argTypes:=#[22,22] },ty,ps,af,none⟩ a w K Q else E:=by
 obtain ⟨i0,hi,hz0,hz1,hz2⟩:=info_parts ni;have hpos:=List.length_pos_iff.2 hne;obtain ⟨b,o,rfl,_⟩:=hT.2.2.2 0 hpos;have hl:=hT.1;subst hl;refine step_append_lies w rfl s x 22 rfl B 3 i0 _ 1 8 Tryz.underlying22 hi hz0 hz1 hz2 rfl (by decide) v S.length (S.map (Value.int .i64)) hs hO ⟨b,o,none⟩ T.length tc (T.map (Value.int .i64)) hx (by simp) ?_ ?_ hpos (by unfold maxLen;omega) (by omega) hB _ rfl ?_
 ·intro j u hj;have hlt:j < T.length:=by have:=(List.getElem?_eq_some_iff.1 hj).1;simpa using this
  obtain ⟨b',o',e',hc⟩:=hT.2.2.2 j hlt;cases e'
  rw [dd,hc];simp [hlt] at hj
  rw [hj]
 ·intro u hu;obtain ⟨z,_,rfl⟩:=List.mem_map.1 hu;rfl
 ·intro g' cap w' h2 h3 _ _;refine h g' _ cap w' ?_ h3;show bJ _ _ _ _;unfold bJ;rw [List.length_append,List.map_append];exact h2
theorem kL (w:World) (B:Nat) (hB:B≤w.heap.size):bJ B (w.alloc (.cells #[] 3)) (.slice (some ⟨w.heap.size,0,none⟩) 0 0) [] :=
 ⟨rfl,.inr ⟨w.heap.size,0,#[],rfl,hB,heap_alloc_new w _,Nat.le_refl _,Nat.zero_le _,rfl,rfl⟩⟩
theorem jS.grown {B:Nat}{w w0 w':World}{p:Nat}{al:Int}{v u:Value}{X Y:List (Ep × Value)}(hp:B≤p) (hv:w0.heap[p]?=some (.cells #[.int .i64 al,v] 94 (0,0))) (hr:iR B w0 v X) (hk:aa [] w0 w) (hR:iR B w' u Y) (hO:iK B w Y) (hg:w.grownBy w' v.ownBlock) :
 jS B (w'.setCell ⟨p,1,none⟩ u) p al (Y.map Prod.fst)∧Tn B [94,134] w0 (w'.setCell ⟨p,1,none⟩ u):=by
 have hkr:aa v.ownBlock.toList w w':=(aa.refl _ _).grown hg fun k hk=>.inl (by simp [hk]);have hk1:aa v.ownBlock.toList w0 w':=(hk.mono (by simp)).trans hkr (fun i hi=>.inl hi)
 have hty:∀ k∈v.ownBlock.toList,B≤k∧∃ cur,w0.heap[k]?=some (.cells cur 134 (0,0)):=fun k hk=>by
  have hk':=aw.1 hk;exact ⟨(World.ownsRow.lt hr k hk').1,ar hr hk'⟩
 have hpn:p ∉ v.ownBlock.toList:=fun hm=>by
  obtain ⟨_,cur,hh⟩:=hty p hm;rw [hv] at hh;cases hh
 have h1:w'.heap[p]?=some (.cells #[.int .i64 al,v] 94 (0,0)):=hk1.at hv hpn
 have htw:aJ w v.ownBlock.toList [134]:=fun k hk' cur t mk hh=>by
  obtain ⟨_,cur',hh'⟩:=hty k hk';rw [hk.at hh' (by simp)] at hh;cases hh;simp
 refine ⟨⟨u,Y,hp,?_,?_,?_,rfl⟩,⟨p :: v.ownBlock.toList,?_,?_,?_,?_⟩⟩
 ·have:=heap_setCell_same w' p 1 _ _ u h1
  simpa using this
 ·exact ((aa.refl [p] w').setCell (by simp) _).ownsRow hR fun k hk hm=>by
   simp at hm
   subst hm;obtain ⟨cur,hh⟩:=ar hR hk;rw [h1] at hh;cases hh
 ·intro x hx;have h2:bJ B w' x.2 x.1.m:=ap hkr htw (hO x hx) (by decide)
  exact ((aa.refl [p] w').setCell (by simp) _).ownsRow h2 fun k hk hm=>by
   simp at hm
   subst hm;obtain ⟨cur,hh⟩:=ar h2 hk;rw [h1] at hh;cases hh
 ·exact (hk1.mono (fun i hi=>.inl (by simp [hi]))).setCell (by simp) _
 ·intro k hk;rcases List.mem_cons.1 hk with rfl | hk
  ·exact hp
  ·exact (hty k hk).1
 ·intro k hk cur t mk hh;rcases List.mem_cons.1 hk with rfl | hk
  ·rw [hv] at hh;cases hh;simp
  ·obtain ⟨_,cur',hh'⟩:=hty k hk;rw [hh'] at hh;cases hh;simp
 ·intro k hk _;rcases List.mem_cons.1 hk with rfl | hk
  ·exact ⟨_,_,_,hv⟩
  ·obtain ⟨_,cur',hh'⟩:=hty k hk;exact ⟨_,_,_,hh'⟩
def EK (w:World) (L:List Ep) (e:Ending) (w':World):Prop:=∃ v Y,e=.returned v∧iR w.heap.size w' v Y∧iK w.heap.size w' Y∧Y.map Prod.fst=L∧aa [] w w'
def Ex (w:World) (X:List (Ep × Value)) (n:Nat) (iv ov:Value) (wr:World):Prop:=∃ (j:Nat) (Y:List (Ep × Value)),iv=.int .i64 (j:Int)∧j≤n∧Hid (iR w.heap.size wr ov Y)∧Hid (iK w.heap.size wr Y)∧Hid (Y.map Prod.fst=(X.take j).map Prod.fst)∧Hid (aa [] w wr)
theorem iO (w:World) (ao:Option Addr) (n c:Nat) (X:List (Ep × Value)) (hS:qB w ao n c X) (hm:∀ x∈X,ea x.1.m) (hn:n≤1000) :
 Calls Tryz.prog 67 #[.slice ao n c] w fun e w'=>EK w (X.map Prod.fst) e w':=by
 have hc:=hS.2.1;have hmx:=hS.2.2.1;unfold maxLen at hmx;have HS:=ah hS;have HL:=ah hS.1;have HM:=ah hm;clear hS hm;go_enter Tryz.func67,Tryz.ntmps67;go_wp2_with fail
 go_loopw [4,3] (fun iv ov wr=>Ex w X n iv ov wr) (fun iv _ _=>n - (intOf iv).toNat)
 case atStart=>exact ⟨0,[],rfl,Nat.zero_le _,World.ownsRow_nil _ _ _ _,(fun _ h=>by cases h),(by simp [Hid]),aa.refl _ _⟩
 case round =>
  obtain ⟨j,Y,rfl,hj,HRo,HOo,HMp,HK⟩:=hrel;by_cases hlt:j < n
  ·have hlt':(j:Int) < n:=by omega
   have hjX:j < X.length:=by rw [HL.out];exact hlt
   have hYl:Y.length=j:=by
    have:=congrArg List.length HMp.out
    simp at this
    omega
   have HYl:=ah hYl;obtain ⟨ga,oa,hae,z0,z1⟩:=HS.out.2.2.2.1 j hjX;subst hae;obtain ⟨so,sc,hv,hsl⟩:=HS.out.2.2.2.2 _ (List.getElem_mem hjX);have HNe:=ah (HM.out _ (List.getElem_mem hjX)).1;have HLm:=ah (pP (HM.out _ (List.getElem_mem hjX)));have HT:Hid (X.take (j+1)=X.take j++[X[j]]):=List.take_succ_eq_append_getElem hjX;rw [hv] at z1;have HSm:Hid (mW wr so X[j].1.m.length sc X[j].1.m):=hsl.kept HK.out;generalize X[j]=x at *;obtain ⟨sn,hsn⟩:∃ sn,sn=x.1.m.length:=⟨_,rfl⟩;rw [← hsn] at z1 HSm;have y0:=HK.out.cell z0 (by simp);have y1:=HK.out.cell z1 (by simp);obtain ⟨ov,hov⟩:∃ o,o=u3:=⟨_,rfl⟩;rw [← hov] at HRo ⊢;clear hv hsl hsn hYl hjX hov;(go_wp2_with fail);refine wp_region_held_drew (S:=fun w'=>w'.cell? ⟨ga,oa+j*2,none⟩=some (.int .i64 x.1.f)∧w'.cell? ⟨ga,oa+j*2+1,none⟩=some (.slice so sn sc)) (by kernel_rfl) ⟨y0,y1⟩ (fun hHeld=>?_);refine aU [0,1,2,3,4,5,7,8,9,10,11] (by rfl) (by kernel_rfl) (fun _ _ _ _ _ h=>h) hHeld ?_
   iterate 11
    refine yk ?_ rfl (Or.inl ⟨by rfl,?_⟩) ?_;rotate_left
    ·intro w9 hSw;(try dsimp only at hSw);go_simp;(try with_reducible rfl)
    try simp only [sT,Act.put]
   refine aT ?_;simp only [au,sT];refine aH 6 (by kernel_rfl) rfl (fun K0 hK0=>?_);go_simp;obtain ⟨w2,hw2⟩:∃ w2,w2=(wr.alloc (.cells #[] 3)).drew:=⟨_,rfl⟩;have HK2:Hid (aa [] wr w2):=by show aa _ _ _;rw [hw2];exact ((aa.refl [] wr).alloc _).drew
   have HR2:Hid (bJ w.heap.size w2 (.slice (some ⟨wr.heap.size,0,none⟩) 0 0) []):=by show bJ _ _ _ _;rw [hw2];exact kL wr _ HK.out.size
   (go_wp2_with fail);rw [← hw2];clear hw2;refine hK0.out _ _ ⟨HK2.out.cell y0 (by simp),HK2.out.cell y1 (by simp)⟩ (fun hHeld=>?_);clear hK0 K0;(try simp only [sT,Act.put]);refine aH 12 (by kernel_rfl) rfl (fun K0 hK0=>?_);refine kW w.heap.size _ [] x.1.m so sn sc rfl HR2.out rfl (HSm.out.kept HK2.out) HNe.out (by simp;have:=HLm.out;omega) (Nat.le_trans HK.out.size HK2.out.size) ?_;intro g3 n3 c3 w3 HR3 HG3;have HK3:Hid (aa [] wr w3):=HK2.out.grown HG3.out (fun k hk=>.inr (by cases hk;exact Nat.le_refl _));refine hK0.out _ _ ⟨HK3.out.cell y0 (by simp),HK3.out.cell y1 (by simp)⟩ (fun hHeld=>?_);clear hK0 K0;(try simp only [sT,Act.put]);refine aU [13] (by rfl) (by kernel_rfl) (fun _ _ _ _ _ h=>h) hHeld ?_
   iterate 1
    refine yk ?_ rfl (Or.inl ⟨by rfl,?_⟩) ?_;rotate_left
    ·intro w9 hSw;(try dsimp only at hSw);go_simp;(try with_reducible rfl)
    try simp only [sT,Act.put]
   refine aT ?_;simp only [au,sT];refine aH 14 (by kernel_rfl) rfl (fun K0 hK0=>?_);go_simp;obtain ⟨w4,hw4⟩:∃ w4,w4=w3.alloc (.cells #[.int .i64 x.1.f,.slice (some ⟨g3,0,none⟩) n3 c3] 134):=⟨_,rfl⟩;have HK4:Hid (aa [] wr w4):=by show aa _ _ _;rw [hw4];exact HK3.out.alloc _
   have HK34:Hid (aa [] w3 w4):=by show aa _ _ _;rw [hw4];exact (aa.refl [] w3).alloc _
   have HA4:Hid (w4.heap[w3.heap.size]?=some (.cells #[.int .i64 x.1.f,.slice (some ⟨g3,0,none⟩) n3 c3] 134 (0,0))):=by show _=_;rw [hw4];exact heap_alloc_new w3 _
   (go_wp2_with fail);rw [← hw4];clear hw4;refine hK0.out _ _ ⟨HK4.out.cell y0 (by simp),HK4.out.cell y1 (by simp)⟩ (fun hHeld=>?_);clear hK0 K0;(try simp only [sT,Act.put]);refine aH 15 (by kernel_rfl) rfl (fun K0 hK0=>?_);refine ey w.heap.size ov Y x.1.f (some ⟨g3,0,none⟩) n3 c3 w3.heap.size rfl (HK4.out.ownsRow HRo.out (by simp)) rfl HA4.out (by have:=HYl.out;omega) (Nat.le_trans HK.out.size HK4.out.size) ?_;intro g5 n5 c5 w5 HR5 HG5;have HKg:Hid (aa ov.ownBlock.toList w4 w5):=(aa.refl _ _).grown HG5.out (fun k hk=>.inl (by simp [hk]))
   have HTy:Hid (aJ w4 ov.ownBlock.toList [134]):=fun k hk cur t mk hh=>by
    obtain ⟨cur',hh'⟩:=ar (HK4.out.ownsRow HRo.out (by simp)) (aw.1 hk);rw [hh'] at hh;cases hh;simp
   have HK5:Hid (aa [] w w5):=(HK.out.trans HK4.out (by simp)).trans HKg.out (fun k hk=>.inr (World.ownsRow.lt HRo.out k (aw.1 hk)).1)
   have HO5:Hid (iK w.heap.size w5 (Y++[(x.1,.slice (some ⟨g3,0,none⟩) n3 c3)])):=fun y hy=>by
    rcases List.mem_append.1 hy with hy | hy
    ·exact ap HKg.out HTy.out (HK4.out.ownsRow (HOo.out y hy) (by simp)) (by decide)
    ·rw [show y=(x.1,.slice (some ⟨g3,0,none⟩) n3 c3) by simpa using hy];exact ap HKg.out HTy.out (HK34.out.ownsRow HR3.out (by simp)) (by decide)
   refine hK0.out _ _ ⟨HK5.out.cell z0 (by simp),HK5.out.cell z1 (by simp)⟩ (fun hHeld=>?_);clear hK0 K0;(try simp only [sT,Act.put]);refine aU [16] (by rfl) (by kernel_rfl) (fun _ _ _ _ _ h=>h) hHeld ?_
   iterate 1
    refine yk ?_ rfl (Or.inl ⟨by rfl,?_⟩) ?_;rotate_left
    ·intro w9 hSw;(try dsimp only at hSw);go_simp;(try with_reducible rfl)
    try simp only [sT,Act.put]
   refine aT ?_;simp only [au,sT];(try simp only [sT,Act.put]);refine wpAnyH_done (by kernel_rfl) ?_ _;clear hHeld;(go_wp2_with fail);go_roundw
   case rel =>
    refine ⟨j+1,_,by go_num,by omega,HR5.out x.1.m,HO5,?_,HK5⟩;show _=_;rw [HT.out,List.map_append,List.map_append,HMp.out];rfl
   case measure=>simp [intOf];omega
  ·have hlt':¬ (j:Int) < n:=by omega
   have HE:Hid (X.take j=X):=List.take_of_length_le (by rw [HL.out];omega);(go_wp2_with fail);go_ret
   exact ⟨_,Y,rfl,HRo.out,HOo.out,by rw [HMp.out,HE.out],HK.out⟩
def Ey (w:World) (X Y:List (Ep × Value)) (n:Nat) (iv:Value) (wr:World):Prop:=∃ j:Nat,iv=.int .i64 (j:Int)∧j≤n∧Hid ((X.take j).map Prod.fst=(Y.take j).map Prod.fst)∧Hid (aa [] w wr)
theorem sN (w:World) (ao bo:Option Addr) (n c n2 c2:Nat) (X Y:List (Ep × Value)) (hS:qB w ao n c X) (hT:qB w bo n2 c2 Y) :
 Calls Tryz.prog 45 #[.slice ao n c,.slice bo n2 c2] w fun e w'=>e=.returned (.bool (decide (X.map Prod.fst=Y.map Prod.fst)))∧aa [] w w':=by
 have hc:=hS.2.1;have hmx:=hS.2.2.1;unfold maxLen at hmx;have HS:=ah hS;have HT:=ah hT;have HL:=ah hS.1;have HL2:=ah hT.1;clear hS hT;by_cases hn:n=n2
 ·subst hn;go_enter Tryz.func45,Tryz.ntmps45;(go_wp2_with fail);go_loopw [5] (fun iv wr=>Ey w X Y n iv wr) (fun iv _=>n - (intOf iv).toNat)
  case atStart=>exact ⟨0,rfl,Nat.zero_le _,by simp [Hid],aa.refl _ _⟩
  case round =>
   obtain ⟨j,rfl,hj,HN,HK⟩:=hrel;by_cases hlt:j < n
   ·have hlt':(j:Int) < n:=by omega
    have hjX:j < X.length:=by rw [HL.out];exact hlt
    have hjY:j < Y.length:=by rw [HL2.out];exact hlt
    have hSr:=HS.out.kept HK.out;have hTr:=HT.out.kept HK.out;obtain ⟨ga,oa,hae,p0,p1⟩:=hSr.2.2.2.1 j hjX;subst hae;obtain ⟨gb,ob,hbe,q0,q1⟩:=hTr.2.2.2.1 j hjY;subst hbe;obtain ⟨xo,xc,hvx,hsx⟩:=hSr.2.2.2.2 _ (List.getElem_mem hjX);obtain ⟨yo,yc,hvy,hsy⟩:=hTr.2.2.2.2 _ (List.getElem_mem hjY);rw [hvx] at p1;rw [hvy] at q1;have HA:Hid (X.take (j+1)=X.take j++[X[j]]):=List.take_succ_eq_append_getElem hjX;have HB:Hid (Y.take (j+1)=Y.take j++[Y[j]]):=List.take_succ_eq_append_getElem hjY;have HX:Hid ((X.map Prod.fst)[j]?=some X[j].1):=by show _=_;simp [hjX]
    have HY:Hid ((Y.map Prod.fst)[j]?=some Y[j].1):=by show _=_;simp [hjY]
    have cI:=gT wr.drew xo yo X[j].1.m.length xc Y[j].1.m.length yc X[j].1.m Y[j].1.m (hsx.kept (aa.refl [] wr).drew) (hsy.kept (aa.refl [] wr).drew);clear hSr hTr hvx hvy hsx hsy;generalize X[j]=x at *;generalize Y[j]=y at *;have HXe:Hid (x.1=⟨x.1.f,x.1.m⟩):=rfl;have HYe:Hid (y.1=⟨y.1.f,y.1.m⟩):=rfl;generalize x.1.f=fx at *;generalize y.1.f=fy at *;generalize x.1.m=mx at *;generalize y.1.m=my at *;by_cases hf:fx=fy
    ·subst hf;have hd0:(fx != fx)=false:=by simp
     by_cases hmm:mx=my
     ·subst hmm;have HN2:Hid ((X.take (j+1)).map Prod.fst=(Y.take (j+1)).map Prod.fst):=by show _=_;rw [HA.out,HB.out,List.map_append,List.map_append,HN.out];simp [HXe.out,HYe.out]
      rw [show decide (mx=mx)=true by simp] at cI;(go_wp2_with fail);refine wp_region_held_drew (S:=fun w'=>w'.cell? ⟨ga,oa+j*2,none⟩=some (.int .i64 fx)∧w'.cell? ⟨ga,oa+j*2+1,none⟩=some (.slice xo mx.length xc)∧w'.cell? ⟨gb,ob+j*2,none⟩=some (.int .i64 fx)∧w'.cell? ⟨gb,ob+j*2+1,none⟩=some (.slice yo mx.length yc)) (by kernel_rfl) ⟨p0,p1,q0,q1⟩ (fun hHeld=>?_);refine aU [0,1,2,3,4,5,6,7,8,9,10,11,12,13,14,15,16,17,18,19,20,21] (by rfl) (by kernel_rfl) (fun _ _ _ _ _ h=>h) hHeld ?_
      iterate 22
       refine yk ?_ rfl (Or.inl ⟨by rfl,?_⟩) ?_;rotate_left
       ·intro w9 hSw;(try dsimp only at hSw);go_simp;(try with_reducible rfl)
       try simp only [sT,Act.put]
      refine aT ?_;simp only [au,sT];refine aH 22 (by kernel_rfl) rfl (fun K0 hK0=>?_);go_simp;refine cI.mono ?_;rintro _ w3 ⟨rfl,hK3a⟩;have HK3:Hid (aa [] wr w3):=(aa.refl [] wr).drew.trans hK3a (by simp);clear hK3a cI;(go_wp2_with fail);refine hK0.out _ _ ⟨HK3.out.cell p0 (by simp),HK3.out.cell p1 (by simp),HK3.out.cell q0 (by simp),HK3.out.cell q1 (by simp)⟩ (fun hHeld=>?_);clear hK0 K0;(try simp only [sT,Act.put]);refine aU [23,24] (by rfl) (by kernel_rfl) (fun _ _ _ _ _ h=>h) hHeld ?_
      iterate 2
       refine yk ?_ rfl (Or.inl ⟨by rfl,?_⟩) ?_;rotate_left
       ·intro w9 hSw;(try dsimp only at hSw);go_simp;(try with_reducible rfl)
       try simp only [sT,Act.put]
      refine aT ?_;simp only [au,sT];(try simp only [sT,Act.put]);refine wpAnyH_done (by kernel_rfl) ?_ _;clear hHeld;(go_wp2_with fail);go_roundw
      case rel=>exact ⟨j+1,by go_num,by omega,HN2,HK.out.trans HK3.out (by simp)⟩
      case measure=>simp [intOf];omega
     ·rw [show decide (mx=my)=false by simpa using hmm] at cI
      have HE:Hid (decide (X.map Prod.fst=Y.map Prod.fst)=false):=by
       show _=_;rw [decide_eq_false_iff_not];intro e;have h1:=HX.out;rw [e,HY.out,HXe.out,HYe.out] at h1;exact hmm (by simpa using h1.symm)
      (go_wp2_with fail);refine wp_region_held_drew (S:=fun w'=>w'.cell? ⟨ga,oa+j*2,none⟩=some (.int .i64 fx)∧w'.cell? ⟨ga,oa+j*2+1,none⟩=some (.slice xo mx.length xc)∧w'.cell? ⟨gb,ob+j*2,none⟩=some (.int .i64 fx)∧w'.cell? ⟨gb,ob+j*2+1,none⟩=some (.slice yo my.length yc)) (by kernel_rfl) ⟨p0,p1,q0,q1⟩ (fun hHeld=>?_);refine aU [0,1,2,3,4,5,6,7,8,9,10,11,12,13,14,15,16,17,18,19,20,21] (by rfl) (by kernel_rfl) (fun _ _ _ _ _ h=>h) hHeld ?_
      iterate 22
       refine yk ?_ rfl (Or.inl ⟨by rfl,?_⟩) ?_;rotate_left
       ·intro w9 hSw;(try dsimp only at hSw);go_simp;(try with_reducible rfl)
       try simp only [sT,Act.put]
      refine aT ?_;simp only [au,sT];refine aH 22 (by kernel_rfl) rfl (fun K0 hK0=>?_);go_simp;refine cI.mono ?_;rintro _ w3 ⟨rfl,hK3a⟩;have HK3:Hid (aa [] wr w3):=(aa.refl [] wr).drew.trans hK3a (by simp);clear hK3a cI;(go_wp2_with fail);refine hK0.out _ _ ⟨HK3.out.cell p0 (by simp),HK3.out.cell p1 (by simp),HK3.out.cell q0 (by simp),HK3.out.cell q1 (by simp)⟩ (fun hHeld=>?_);clear hK0 K0;(try simp only [sT,Act.put]);refine aU [23,24] (by rfl) (by kernel_rfl) (fun _ _ _ _ _ h=>h) hHeld ?_
      iterate 2
       refine yk ?_ rfl (Or.inl ⟨by rfl,?_⟩) ?_;rotate_left
       ·intro w9 hSw;(try dsimp only at hSw);go_simp;(try with_reducible rfl)
       try simp only [sT,Act.put]
      refine aT ?_;simp only [au,sT];(try simp only [sT,Act.put]);refine wpAnyH_done (by kernel_rfl) ?_ _;clear hHeld;(go_wp2_with fail);go_ret
      exact ⟨by rw [HE.out];rfl,HK.out.trans HK3.out (by simp)⟩
    ·have hd0:(fx != fy)=true:=by simpa using hf
     have HE:Hid (decide (X.map Prod.fst=Y.map Prod.fst)=false):=by
      show _=_;rw [decide_eq_false_iff_not];intro e;have h1:=HX.out;rw [e,HY.out,HXe.out,HYe.out] at h1;exact hf ((by simpa using h1:fy=fx∧_).1).symm
     clear cI;(go_wp2_with fail);refine wp_region_held_drew (S:=fun w'=>w'.cell? ⟨ga,oa+j*2,none⟩=some (.int .i64 fx)∧w'.cell? ⟨ga,oa+j*2+1,none⟩=some (.slice xo mx.length xc)∧w'.cell? ⟨gb,ob+j*2,none⟩=some (.int .i64 fy)∧w'.cell? ⟨gb,ob+j*2+1,none⟩=some (.slice yo my.length yc)) (by kernel_rfl) ⟨p0,p1,q0,q1⟩ (fun hHeld=>?_);refine aU [0,1,2,3,4,5,6,7,8,9,10,11] (by rfl) (by kernel_rfl) (fun _ _ _ _ _ h=>h) hHeld ?_
     iterate 12
      refine yk ?_ rfl (Or.inl ⟨by rfl,?_⟩) ?_;rotate_left
      ·intro w9 hSw;(try dsimp only at hSw);go_simp;(try with_reducible rfl)
      try simp only [sT,Act.put]
     refine aT ?_;simp only [au,sT];refine aU [12,13,14,15,16,17,18,19,20,21,22,23] (by rfl) (by kernel_rfl) (fun _ _ _ _ _ h=>h) hHeld ?_
     iterate 12
      refine yk undef rfl (Or.inr ⟨by rfl,rfl⟩) ?_;try simp only [sT,Act.put]
     refine aT ?_;simp only [au,sT];refine aU [24] (by rfl) (by kernel_rfl) (fun _ _ _ _ _ h=>h) hHeld ?_
     iterate 1
      refine yk ?_ rfl (Or.inl ⟨by rfl,?_⟩) ?_;rotate_left
      ·intro w9 hSw;(try dsimp only at hSw);go_simp;(try with_reducible rfl)
      try simp only [sT,Act.put]
     refine aT ?_;simp only [au,sT];(try simp only [sT,Act.put]);refine wpAnyH_done (by kernel_rfl) ?_ _;clear hHeld;(go_wp2_with fail);go_ret
     exact ⟨by rw [HE.out];rfl,HK.out.drew⟩
   ·have hlt':¬ (j:Int) < n:=by omega
    have HE:Hid (decide (X.map Prod.fst=Y.map Prod.fst)=true):=by
     show _=_;have h:=HN.out;rw [List.take_of_length_le (by rw [HL.out];omega),List.take_of_length_le (by rw [HL2.out];omega)] at h;simpa using h
    (go_wp2_with fail);go_ret
    exact ⟨by rw [HE.out];rfl,HK.out⟩
 ·have hn':¬ (n:Int)=n2:=by omega
  have HE:Hid (decide (X.map Prod.fst=Y.map Prod.fst)=false):=by
   show _=_;rw [decide_eq_false_iff_not];intro e;have:=congrArg List.length e
   simp at this
   exact hn (HL.out.symm.trans (this.trans HL2.out))
  go_enter Tryz.func45,Tryz.ntmps45;(go_wp2_with fail);go_ret
  exact ⟨by rw [HE.out];rfl,aa.refl _ _⟩
def ED (L:List Ep) (z:Int) (n:Nat) (iv kv:Value):Prop:=∃ j k:Nat,iv=.int .i64 (j:Int)∧kv=.int .i64 (k:Int)∧j≤n∧Hid (k=min j (fH L z) - 1)
theorem kg (B:Nat) (w:World) (p:Nat) (al:Int) (L:List Ep) (h:jS B w p al L) (hok:hH L) (hl:L.length≤1000000) (z:Int) :
 Calls Tryz.prog 92 #[.pointer (some ⟨p,0,none⟩),.int .i64 z] w fun e w'=>e=.returned (.int .i64 (im L z:Int))∧w=w':=by
 obtain ⟨g,cap,X,h1,hS,hX,_,_,_⟩:=h.open hok.1;have c1:w.cell? ⟨p,1,none⟩=some (.slice (some ⟨g,0,none⟩) L.length cap):=ag (k:=1) h1 rfl;have HS:=ah hS;have HX:=ah hX;have HO:=ah hok.2.1;have HP:Hid (im L z=fH L z - 1):=rfl;have HC:=ah (mN L z);generalize hln:L.length=n at c1 hl;have HL:=ah hln;clear h hok h1 hS hX hln;go_enter Tryz.func92,Tryz.ntmps92;go_wp2_with fail
 go_loop [6,5] (fun iv kv=>ED L z n iv kv) (fun iv _=>n - (intOf iv).toNat)
 case atStart=>exact ⟨0,0,rfl,rfl,Nat.zero_le _,by show _=_;omega⟩
 case round =>
  obtain ⟨j,k,rfl,rfl,hj,HKk⟩:=hrel;by_cases hlt:j < n
  ·have hlt':(j:Int) < n:=by omega
   have hjL:j < L.length:=by rw [HL.out];exact hlt
   have hjX:j < X.length:=by rw [HS.out.1];exact hjL
   obtain ⟨g2,o2,e2,y0,_⟩:=HS.out.2.2.2.1 j hjX;cases e2
   rw [pF HX.out hjX hjL,Nat.zero_add] at y0;have HI:=ah (lT HO.out z j hjL);generalize L[j].f=f at *;by_cases hf:f≤z
   ·have HK2:Hid (j=min (j+1) (fH L z) - 1):=by have:=HI.out.1 hf;show _=_;omega
    (go_wp2_with fail);go_round
    case rel=>exact ⟨j+1,j,by go_num,rfl,by omega,HK2⟩
    case measure=>simp [intOf];omega
   ·have HK2:Hid (k=min (j+1) (fH L z) - 1):=by have h1:=HI.out.2;have h2:=HKk.out;show _=_;have:¬ j < fH L z:=fun h=>hf (h1 h);omega
    (go_wp2_with fail);go_round
    case rel=>exact ⟨j+1,k,by go_num,rfl,by omega,HK2⟩
    case measure=>simp [intOf];omega
  ·have hlt':¬ (j:Int) < n:=by omega
   have HE:Hid (im L z=k):=by show _=_;have h1:=HKk.out;have h2:=HC.out;have h3:=HL.out;rw [HP.out];omega
   (go_wp2_with fail);go_ret
   exact ⟨by rw [HE.out];rfl,rfl⟩
end Go.Proofs.YtgpnlidnbldiiaaGreat
