/-
  Texts laid as one.
-/
import Derived.Test.YtgpnlidnbldiiaaGreatM11r
import Derived.Handy
/-
 The document's graph inside a machine.
-/
namespace Go.Proofs.YtgpnlidnbldiiaaGreat
open Go.RowKit
variable {xm : Value × Value × Value}
theorem fM {w:World}{b:Nat}{x v0 v1 v2 y z:Value}{t:TypeId}(h:w.heap[b]?=some (.cells #[x,v0,v1,v2,y,z] t (0,0))) :
 w.cell? ⟨b,1,none⟩=some v0∧w.cell? ⟨b,2,none⟩=some v1∧w.cell? ⟨b,3,none⟩=some v2:=by
 simp [World.cell?,h]
structure iw (w:World) (b:Nat) (xm:Value × Value × Value) (v vL vR:Value) (K:List (aV × Value)) (G:Gr):Prop where
 at_:w.heap[b]?=some (.cells #[xm.1,v,vL,vR,xm.2.1,xm.2.2] 84 (0,0))
 row:bk 0 w v K
 own:gK 0 w K
 com:K.map Prod.fst=G.cs
 lvs:cf 0 w vL G.ls
 rfs:fI 0 w vR G.rs
def DX (w:World) (b:Nat) (xm:Value × Value × Value) (S:List Nat) (G:Gr):Prop:=∃ v vL vR K,iw w b xm v vL vR K G∧gQ G.ls vL∧S=bf b v
theorem iw.typed {w:World}{b:Nat}{v vL vR:Value}{K:List (aV × Value)}{G:Gr}(h:iw w b xm v vL vR K G):aJ w (bf b v) [84,137]:=by
 intro k hk cur t' mk hh;rcases List.mem_cons.1 hk with rfl | hk
 ·rw [h.at_] at hh;cases hh;simp
 ·obtain ⟨c2,h2⟩:=ar h.row (aw.1 hk);rw [h2] at hh;cases hh;simp
theorem iw.lt {w:World}{b:Nat}{v vL vR:Value}{K:List (aV × Value)}{G:Gr}(h:iw w b xm v vL vR K G):∀ k∈bf b v,k < w.heap.size:=by
 intro k hk;rcases List.mem_cons.1 hk with rfl | hk
 ·exact aq h.at_
 ·obtain ⟨c2,h2⟩:=ar h.row (aw.1 hk);exact aq h2
theorem iw.keep {w w':World}{b:Nat}{v vL vR:Value}{K:List (aV × Value)}{G:Gr}(h:iw w b xm v vL vR K G)
 {S:List Nat}{Ts:List TypeId}(k:aa S w w') (hS:∀ i∈bf b v,i ∉ S) (hT:aJ w S Ts) (h1:60 ∉ Ts) (h2:141 ∉ Ts) (h3:204 ∉ Ts):iw w' b xm v vL vR K G :=
 ⟨k.at h.at_ (hS b (by simp [bf])),k.ownsRow h.row (fun i hi=>hS i (by simp [bf,hi])),fun x hx=>ap k hT (h.own x hx) h1,h.com,ap k hT h.lvs h2,ap k hT h.rfs h3⟩
theorem iw.kept {w w':World}{b:Nat}{v vL vR:Value}{K:List (aV × Value)}{G:Gr}(h:iw w b xm v vL vR K G) (k:aa [] w w'):iw w' b xm v vL vR K G :=
 h.keep k (by simp) (cm w []) (by simp) (by simp) (by simp)
theorem iw.setRefs {w:World}{b:Nat}{v vL vR vR':Value}{K:List (aV × Value)}{G:Gr}(h:iw w b xm v vL vR K G) {rs:List (List UInt8 × Int)}(hR:fI 0 w vR' rs) :
 iw (w.setCell ⟨b,3,none⟩ vR') b xm v vL vR' K ⟨G.cs,G.ls,rs⟩:=by
 have hK2:aa [b] w (w.setCell ⟨b,3,none⟩ vR'):=(aa.refl _ _).setCell (by simp) _
 have hT2:aJ w [b] [84]:=fun k hk cur t' mk hh=>by
  simp at hk;subst hk;rw [h.at_] at hh;cases hh;simp
 exact ⟨heap_setCell_same w b 3 _ _ _ h.at_,ap hK2 hT2 h.row (by decide),fun y hy=>ap hK2 hT2 (h.own y hy) (by decide),h.com,ap hK2 hT2 h.lvs (by decide),ap hK2 hT2 hR (by decide)⟩
theorem iw.setLeaves {w:World}{b:Nat}{v vL vL' vR:Value}{K:List (aV × Value)}{G:Gr}(h:iw w b xm v vL vR K G) {ls:List Lf}(hL:cf 0 w vL' ls) :
 iw (w.setCell ⟨b,2,none⟩ vL') b xm v vL' vR K ⟨G.cs,ls,G.rs⟩:=by
 have hK2:aa [b] w (w.setCell ⟨b,2,none⟩ vL'):=(aa.refl _ _).setCell (by simp) _
 have hT2:aJ w [b] [84]:=fun k hk cur t' mk hh=>by
  simp at hk;subst hk;rw [h.at_] at hh;cases hh;simp
 exact ⟨heap_setCell_same w b 2 _ _ _ h.at_,ap hK2 hT2 h.row (by decide),fun y hy=>ap hK2 hT2 (h.own y hy) (by decide),h.com,ap hK2 hT2 hL (by decide),ap hK2 hT2 h.rfs (by decide)⟩
theorem iw.setRow {w:World}{b:Nat}{v vL vR:Value}{K:List (aV × Value)}{G:Gr}(h:iw w b xm v vL vR K G) {w':World}{x:aV}{cv:Value}(hO:aP 0 w cv x.c) {g cap:Nat}
 (hR:bk 0 w' (.slice (some ⟨g,0,none⟩) (K.length+1) cap) (K++[(x,cv)])) (hg:w.grownBy w' v.ownBlock) (hat:v.ownBlock=some g∨g=w.heap.size) :
 iw (w'.setCell ⟨b,1,none⟩ (.slice (some ⟨g,0,none⟩) (K.length+1) cap)) b xm (.slice (some ⟨g,0,none⟩) (K.length+1) cap) vL vR (K++[(x,cv)]) ⟨G.cs++[x],G.ls,G.rs⟩:=by
 have hT:aJ w v.ownBlock.toList [137]:=fun k hk cur t' mk hh=>by
  obtain ⟨c2,h2⟩:=ar h.row (aw.1 hk);rw [h2] at hh;cases hh;simp
 have hK:aa v.ownBlock.toList w w':=(aa.refl _ w).grown hg fun k hk=>.inl (aw.2 hk);have hbv:b ∉ v.ownBlock.toList:=fun hm=>by have:=hT b hm _ _ _ h.at_;simp at this
 have hb':=hK.at h.at_ hbv;have hblt:=aq h.at_
 have hgb:g≠b:=fun e=>by
  subst e;rcases hat with hat | hat
  ·exact hbv (aw.2 hat)
  ·omega
 have hK2:aa [b] w' (w'.setCell ⟨b,1,none⟩ (.slice (some ⟨g,0,none⟩) (K.length+1) cap)):=(aa.refl _ _).setCell (by simp) _
 have hT2:aJ w' [b] [84]:=fun k hk cur t' mk hh=>by
  simp at hk;subst hk;rw [hb'] at hh;cases hh;simp
 refine ⟨heap_setCell_same w' b 1 _ _ _ hb',hK2.ownsRow hR (fun k hk=>by simp [Value.ownBlock] at hk;subst hk;simpa using hgb),?_,by simp [h.com],ap hK2 hT2 (ap hK hT h.lvs (by decide)) (by decide),ap hK2 hT2 (ap hK hT h.rfs (by decide)) (by decide)⟩;intro y hy
 have hy2:aP 0 w y.2 y.1.c:=by
  rcases List.mem_append.1 hy with hy | hy
  ·exact h.own y hy
  ·simp at hy;subst hy;exact hO
 exact ap hK2 hT2 (ap hK hT hy2 (by decide)) (by decide)
end Go.Proofs.YtgpnlidnbldiiaaGreat
namespace Go.Proofs.YtgpnlidnbldiiaaGreat
open Go.RowKit
variable {xm : Value × Value × Value}
def Dv (w:World) (b:Nat) (xm:Value × Value × Value) (v vL:Value) (K:List (aV × Value)) (G:Gr) (w':World):Prop:=∃ vR,iw w' b xm v vL vR K G∧aa [b] w w'
theorem vB {w wr:World}{b:Nat}{v vL vR:Value}{K:List (aV × Value)}{G:Gr}(h:iw w b xm v vL vR K G) {ov:Value}{rs:List (List UInt8 × Int)}(hK:aa [] w wr) (hO:fI w.heap.size wr ov rs):Hid (Dv w b xm v vL K ⟨G.cs,G.ls,rs⟩ (wr.setCell ⟨b,3,none⟩ ov)) :=
 ⟨ov,(h.kept hK).setRefs (fI.mono hO (Nat.zero_le _)),(hK.mono (by simp)).setCell (.inl (by simp)) _⟩
set_option maxHeartbeats 8000000 in
set_option maxRecDepth 100000 in
theorem ua {w:World}{b:Nat}{v vL vR:Value}{K:List (aV × Value)}{G:Gr}(h:iw w b xm v vL vR K G) (n:List UInt8) (r:Int) (hs:sK G.rs) (hl:G.rs.length≤1000000) :
 Calls Tryz.prog 144 #[.pointer (some ⟨b,1,none⟩),.string (ak n),.int .i64 r] w fun e w'=>e=.returned (.tuple #[])∧Dv w b xm v vL K ⟨G.cs,G.ls,jp n r G.rs⟩ w':=by
 obtain ⟨ao,c,rfl,hc,hm,hat⟩:=h.rfs.at;unfold maxLen at hm;have HAt:Hid (∀ i (hi:i < G.rs.length),∃ g,ao=some ⟨g,0,none⟩∧w.cell? ⟨g,i*2,none⟩=some (.string (ak G.rs[i].1))∧w.cell? ⟨g,i*2+1,none⟩=some (.int .i64 G.rs[i].2)):=hat;have HM:Hid (iw w b xm v vL (.slice ao G.rs.length c) K G):=h;have HS:Hid (sK G.rs):=hs;obtain ⟨rn,hrn⟩:∃ rn:Nat,rn=G.rs.length:=⟨_,rfl⟩;have HRn:Hid (rn=G.rs.length):=hrn;rw [← hrn] at hc hl;clear hat h hs hrn;go_enter Tryz.func144,Tryz.ntmps144;go_wp2_with fail
 go_loopw [6,7,8] (fun ov pv iv wr=>xW w n r G.rs ov pv iv wr) (fun _ _ iv _=>rn - (intOf iv).toNat)
 case atStart=>exact ⟨0,[],false,rfl,rfl,Nat.zero_le _,.inl ⟨rfl,rfl⟩,Nat.zero_le _,World.ownsRow_nil _ _ _ _,aa.refl _ _⟩
 case round =>
  obtain ⟨i,out,put,rfl,rfl,hi,HP,HL,HO,HK⟩:=hrel;have hsz:=HK.out.size;obtain ⟨c0,c1,c2⟩:=fM (HM.out.kept HK.out).at_;rw [← HRn.out] at c2;have HO2:=fun ob=>World.ownsRow.alloc HO.out ob;have hlen:out.length≤1000000000:=by have:=HL.out;have:=HRn.out;omega
  have HKa:=fun ob=>HK.out.alloc ob;by_cases hlt:i < rn
  ·have hlt':(i:Int) < rn:=by omega
   have hic:i≤c:=by omega
   have hir:i < G.rs.length:=by rw [← HRn.out];exact hlt
   obtain ⟨g,rfl,d0,d1⟩:=HAt.out i hir;have e0:=HK.out.cell d0 (by simp);have e1:=HK.out.cell d1 (by simp);have E0:Hid (w.cell? ⟨g,i*2,none⟩=some (.string (ak G.rs[i].1))):=d0;have E1:Hid (w.cell? ⟨g,i*2+1,none⟩=some (.int .i64 G.rs[i].2)):=d1;clear d0 d1;obtain ⟨y,hy⟩:∃ y,y=G.rs[i]:=⟨_,rfl⟩;rw [← hy] at e0 e1 E0 E1;cases put with
   | false =>
     by_cases hlt1:y.1 < n
     ·have hb1:Op.bytesLess (ak y.1).toList (ak n).toList=true:=by rw [jf];simpa using hlt1
      have hb2:((ak y.1).toList==(ak n).toList)=false:=by rw [dl];simp;intro e;rw [e] at hlt1;exact List.lt_irrefl _ hlt1
      have HN:Hid (oc n r G.rs (i+1) false (out++[y])):=by rw [hy];exact BQ hir HP.out (by rw [← hy];exact hlt1)
      clear hlt1 hy;go_wp2_with (at_builtin;refine ej rfl _ _ rfl w.heap.size _ out rfl (HO2 _) wr.heap.size y rfl (heap_alloc_new _ _) hlen (by simp;omega) ?a1)
      case a1 =>
       intro v2 w2 hO2 hg2;have HF:Hid (xW w n r G.rs v2 (.bool false) (.int .i64 ((i+1:Nat):Int)) w2):=⟨i+1,_,false,rfl,rfl,by omega,HN,(by have:=HL.out;show _≤_;simp;omega),hO2,(HKa (.cells #[.string (ak y.1),.int .i64 y.2] 204)).grown hg2 (fun k hk=>.inr (World.ownsRow.lt (HO2 (.cells #[.string (ak y.1),.int .i64 y.2] 204)) k hk).1)⟩;clear hO2 hg2;(go_wp2_with fail);go_roundw
       case rel=>exact HF.out
       case measure=>simp [intOf];omega
     ·have hb1:Op.bytesLess (ak y.1).toList (ak n).toList=false:=by rw [jf];simpa using hlt1
      by_cases he:y.1=n
      ·have hb2:((ak y.1).toList==(ak n).toList)=true:=by rw [dl];simpa using he
       have HN:Hid (oc n r G.rs (i+1) true (out++[(n,r)])):=BK HS.out hir HP.out (by rw [← hy];exact he);clear hlt1 hy he;go_wp2_with (at_builtin;refine ej rfl _ _ rfl w.heap.size _ out rfl (HO2 _) wr.heap.size (n,r) rfl (heap_alloc_new _ _) hlen (by simp;omega) ?a2)
       case a2 =>
        intro v2 w2 hO2 hg2;have hK2:=(HKa (.cells #[.string (ak n),.int .i64 r] 204)).grown hg2 (fun k hk=>.inr (World.ownsRow.lt (HO2 (.cells #[.string (ak n),.int .i64 r] 204)) k hk).1);obtain ⟨m0,m1,m2⟩:=fM (HM.out.kept hK2).at_;rw [← HRn.out] at m2;have k0:=hK2.cell E0.out (by simp);have k1:=hK2.cell E1.out (by simp);have HF:Hid (xW w n r G.rs v2 (.bool true) (.int .i64 ((i+1:Nat):Int)) w2):=⟨i+1,_,true,rfl,rfl,by omega,HN,(by have:=HL.out;show _≤_;simp;omega),hO2,hK2⟩;clear hO2 hg2 hK2;(go_wp2_with fail);go_roundw
        case rel=>exact HF.out
        case measure=>simp [intOf];omega
      ·have hb2:((ak y.1).toList==(ak n).toList)=false:=by rw [dl];simpa using he
       have HN:Hid (oc n r G.rs (i+1) true (out++[(n,r)]++[y])):=by rw [hy];exact BE HS.out hir HP.out (by rw [← hy];exact hlt1) (by rw [← hy];exact he)
       clear hlt1 hy he;go_wp2_with (at_builtin;refine ej rfl _ _ rfl w.heap.size _ out rfl (HO2 _) wr.heap.size (n,r) rfl (heap_alloc_new _ _) hlen (by simp;omega) ?a3)
       case a3 =>
        intro v2 w2 hO2 hg2;have hK2:=(HKa (.cells #[.string (ak n),.int .i64 r] 204)).grown hg2 (fun k hk=>.inr (World.ownsRow.lt (HO2 (.cells #[.string (ak n),.int .i64 r] 204)) k hk).1);obtain ⟨m0,m1,m2⟩:=fM (HM.out.kept hK2).at_;rw [← HRn.out] at m2;have k0:=hK2.cell E0.out (by simp);have k1:=hK2.cell E1.out (by simp);have HK2:Hid (aa [] w w2):=hK2;have HO3:=fun ob=>World.ownsRow.alloc hO2 ob;have hlen3:(out++[(n,r)]).length≤1000000000:=by have:=HL.out;have:=HRn.out;simp;omega
        have hsz2:=hK2.size;clear hg2 hK2 HO2 HKa;go_wp2_with (at_builtin;refine ej rfl _ _ rfl w.heap.size _ (out++[(n,r)]) rfl (HO3 _) w2.heap.size y rfl (heap_alloc_new _ _) hlen3 (by simp;omega) ?a4)
        case a4 =>
         intro v3 w3 hO4 hg4;have HF:Hid (xW w n r G.rs v3 (.bool true) (.int .i64 ((i+1:Nat):Int)) w3):=⟨i+1,_,true,rfl,rfl,by omega,HN,(by have:=HL.out;show _≤_;simp;omega),(by show fI _ _ _ _;rw [List.append_assoc];exact hO4),(HK2.out.alloc (.cells #[.string (ak y.1),.int .i64 y.2] 204)).grown hg4 (fun k hk=>.inr (World.ownsRow.lt (HO3 (.cells #[.string (ak y.1),.int .i64 y.2] 204)) k hk).1)⟩;clear hO4 hg4 HO3;(go_wp2_with fail);go_roundw
         case rel=>exact HF.out
         case measure=>simp [intOf];omega
   | true =>
     by_cases he:y.1=n
     ·have hb2:((ak y.1).toList==(ak n).toList)=true:=by rw [dl];simpa using he
      have HN:Hid (oc n r G.rs (i+1) true out):=BC hir HP.out (by rw [← hy];exact he);have HF:Hid (xW w n r G.rs u6 (.bool true) (.int .i64 ((i+1:Nat):Int)) wr):=⟨i+1,_,true,rfl,rfl,by omega,HN,(by have:=HL.out;show _≤_;omega),HO,HK⟩;clear hy he;(go_wp2_with fail);go_roundw
      case rel=>exact HF.out
      case measure=>simp [intOf];omega
     ·have hb2:((ak y.1).toList==(ak n).toList)=false:=by rw [dl];simpa using he
      have HN:Hid (oc n r G.rs (i+1) true (out++[y])):=by rw [hy];exact BU hir HP.out (by rw [← hy];exact he)
      clear hy he;go_wp2_with (at_builtin;refine ej rfl _ _ rfl w.heap.size _ out rfl (HO2 _) wr.heap.size y rfl (heap_alloc_new _ _) hlen (by simp;omega) ?a5)
      case a5 =>
       intro v2 w2 hO2 hg2;have HF:Hid (xW w n r G.rs v2 (.bool true) (.int .i64 ((i+1:Nat):Int)) w2):=⟨i+1,_,true,rfl,rfl,by omega,HN,(by have:=HL.out;show _≤_;simp;omega),hO2,(HKa (.cells #[.string (ak y.1),.int .i64 y.2] 204)).grown hg2 (fun k hk=>.inr (World.ownsRow.lt (HO2 (.cells #[.string (ak y.1),.int .i64 y.2] 204)) k hk).1)⟩;clear hO2 hg2;(go_wp2_with fail);go_roundw
       case rel=>exact HF.out
       case measure=>simp [intOf];omega
  ·have hlt':¬ (i:Int) < rn:=by omega
   have hdr:G.rs.drop i=[]:=List.drop_eq_nil_of_le (by rw [← HRn.out];omega);cases put with
   | true =>
     have HE:Hid (out=jp n r G.rs):=by
      have:=HP.out
      rcases this with ⟨h,_⟩ | ⟨_,h⟩
      ·cases h
      ·rw [hdr] at h;show _=_;simpa using h
     obtain ⟨ao6,c6,he6,_⟩:=HO.out.at;have HF:=vB HM.out HK.out HO.out;rw [HE.out] at HF;have f2:=aj (HM.out.kept HK.out).at_ 3;subst he6;clear HO2 HKa hdr;(go_wp2_with fail);go_returns
     exact ⟨rfl,HF.out⟩
   | false =>
     have HE:Hid (out++[(n,r)]=jp n r G.rs):=by
      have:=HP.out
      rcases this with ⟨_,h⟩ | ⟨h,_⟩
      ·rw [hdr] at h;exact h
      ·cases h
     clear hdr;go_wp2_with (at_builtin;refine ej rfl _ _ rfl w.heap.size _ out rfl (HO2 _) wr.heap.size (n,r) rfl (heap_alloc_new _ _) hlen (by simp;omega) ?a6)
     case a6 =>
      intro v2 w2 hO2 hg2;have hK2:=(HKa (.cells #[.string (ak n),.int .i64 r] 204)).grown hg2 (fun k hk=>.inr (World.ownsRow.lt (HO2 (.cells #[.string (ak n),.int .i64 r] 204)) k hk).1);obtain ⟨m0,m1,m2⟩:=fM (HM.out.kept hK2).at_;have f2:=aj (HM.out.kept hK2).at_ 3;have HF:=vB HM.out hK2 hO2;rw [HE.out] at HF;obtain ⟨ao6,c6,he6,_⟩:=fI.at hO2;obtain ⟨n6,hn6⟩:∃ n6,n6=(out++[(n,r)]).length:=⟨_,rfl⟩;rw [← hn6] at he6;subst he6;clear hn6;clear hO2 hg2 hK2 HO2 HKa;(go_wp2_with fail);go_returns
      exact ⟨rfl,HF.out⟩
end Go.Proofs.YtgpnlidnbldiiaaGreat
namespace Go.Proofs.YtgpnlidnbldiiaaGreat
open Go.RowKit
variable {xm : Value × Value × Value}
def pH (w:World) (b:Nat) (xm:Value × Value × Value) (S:List Nat) (G:Gr) (w':World):Prop:=∃ S',DX w' b xm S' G∧aa S w w'∧∀ k∈S',k∈S∨w.heap.size≤k
theorem fZ {w w2 w3:World}{b:Nat}{v vL vR:Value}{K:List (aV × Value)}{G:Gr}{vs:Array Value}(h:iw w2 b xm v vL vR K G) (hnl:gQ G.ls vL) {S:List Nat}(hS:∀ k∈S,k < w.heap.size) (hv:∀ k∈bf b v,k∈S∨w.heap.size < k)
 (hB:w2.heap[w.heap.size]?=some (.cells vs 39 (0,0))) (hK2:aa S w w2) (hK3:aa [w.heap.size] w2 w3):pH w b xm S G w3:=by
 have hT:aJ w2 [w.heap.size] [39]:=fun k hk cur t' mk hh=>by
  simp at hk;subst hk;rw [hB] at hh;cases hh;simp
 refine ⟨bf b v,⟨v,vL,vR,K,h.keep hK3 (fun i hi hm=>?_) hT (by decide) (by decide) (by decide),hnl,rfl⟩,hK2.trans hK3 (by simp),fun k hk=>?_⟩
 ·simp at hm;subst hm
  rcases hv _ hi with h1 | h1
  ·have:=hS _ h1;omega
  ·omega
 ·rcases hv k hk with h1 | h1
  ·exact .inl h1
  ·exact .inr (by omega)
theorem iw.grown {w:World}{b:Nat}{v vL vR:Value}{K:List (aV × Value)}{G:Gr}(h:iw w b xm v vL vR K G) {w':World}(hg:w.grownBy w' v.ownBlock):w'.heap[b]?=some (.cells #[xm.1,v,vL,vR,xm.2.1,xm.2.2] 84 (0,0)):=by
 refine ((aa.refl v.ownBlock.toList w).grown hg fun k hk=>.inl (aw.2 hk)).at h.at_ fun hm=>?_;obtain ⟨c2,h2⟩:=ar h.row (aw.1 hm);rw [h.at_] at h2;cases h2
theorem rN {w wr w2:World}{b:Nat}{v:Value}{o ob:Obj}{g n cap:Nat}(hS:∀ k∈bf b v,k < w.heap.size) (hK:aa [] w wr) (hB:wr.heap[w.heap.size]?=some o) (hg:(wr.alloc ob).grownBy w2 v.ownBlock) (hat:v.ownBlock=some g∨g=(wr.alloc ob).heap.size) :
 aa (bf b v) w (w2.setCell ⟨b,1,none⟩ (.slice (some ⟨g,0,none⟩) n cap))∧(∀ k∈bf b (.slice (some ⟨g,0,none⟩) n cap),k∈bf b v∨w.heap.size < k) ∧
  (w2.setCell ⟨b,1,none⟩ (.slice (some ⟨g,0,none⟩) n cap)).heap[w.heap.size]?=some o:=by
 have hlt:=g8 hB;refine ⟨(((hK.mono (by simp)).alloc _).grown hg (fun k hk=>.inl (by simp [bf,hk]))).setCell (.inl (by simp [bf])) _,fun k hk=>?_,?_⟩
 ·rcases List.mem_cons.1 hk with rfl | hk
  ·exact .inl (by simp [bf])
  ·simp [Value.ownBlock] at hk
   subst hk;rcases hat with h | h
   ·exact .inl (by simp [bf,h])
   ·refine .inr ?_;rw [h,World.size_alloc];omega
 ·have hb:=hS b (by simp [bf]);have h1:(wr.alloc ob).heap[w.heap.size]?=some o:=(Below.heap_alloc _ _ _ hlt).trans hB
  have h2:w2.heap[w.heap.size]?=some o:=((aa.refl v.ownBlock.toList _).grown hg fun k hk=>.inl (aw.2 hk)).at h1 fun hm=>by
   have:=hS w.heap.size (by simp [bf,aw.1 hm])
   omega
  exact (show aa [b] w2 _ from (aa.refl _ _).setCell (by simp) _).at h2 (by simp;omega)
def B6 (w:World) (b:Nat) (xm:Value × Value × Value) (S:List Nat) (v vR:Value) (K:List (aV × Value)) (cs:List aV) (ls:List Lf) (rs:List (List UInt8 × Int)) (r:Int) (L:List Ch) (vs:Array Value) (iv:Value) (wr:World):Prop :=
 ∃ (i:Nat) (vL:Value),iv=.int .i64 (i:Int)∧i≤L.length∧Hid (iw wr b xm v vL vR K ⟨cs,dF r ls (L.take i),rs⟩)∧Hid (gQ (dF r ls (L.take i)) vL)∧Hid (aa S w wr)∧Hid (wr.heap[w.heap.size]?=some (.cells vs 39 (0,0)))
end Go.Proofs.YtgpnlidnbldiiaaGreat
