/-
  Texts laid as one.
-/
import Derived.Test.YtgpnlidnbldiiaaGreatQ12r
import Derived.Laws.AppendOwnNone
import Derived.Deep.Cut
import Derived.Test.YtgpnlidnbldiiaaGreatQ13r
set_option maxHeartbeats 8000000
set_option maxRecDepth 100000
/-
 The document's own CopyCommit,CopyCommits,CopyVerdict,CopySession.
-/
namespace Go.Proofs.YtgpnlidnbldiiaaGreat
open Go.RowKit
theorem qX (w:World) (x:aV) (mo:Option Addr) (m mc:Nat) (hS:di w mo m mc x.c) (hnil:mo=none→mc=0) (hx:Cy x) :
 Calls Tryz.prog 80 #[.agg #[.int .i64 x.r,.int .i64 x.b,.string (ak x.n),.slice mo m mc]] w fun e w'=>∃ v',e=.returned (.agg #[.int .i64 x.r,.int .i64 x.b,.string (ak x.n),v'])∧aP w.heap.size w' v' x.c∧aa [] w w':=by
 obtain ⟨W1,hW1⟩:∃ W1,W1=(w.alloc (.cells #[.int .i64 x.r,.int .i64 x.b,.string (ak x.n),.slice mo m mc] 137)).alloc (.cells #[.int .i64 0,.int .i64 0,.string ⟨#[]⟩,.slice none 0 0] 137):=⟨_,rfl⟩;have hsz:W1.heap.size=w.heap.size+2:=by rw [hW1,World.size_alloc,World.size_alloc]
 have hK0:aa [] w W1:=by rw [hW1];exact ((aa.refl _ _).alloc _).alloc _
 have hL:=lJ w #[.int .i64 x.r,.int .i64 x.b,.string (ak x.n),.slice mo m mc] #[.int .i64 0,.int .i64 0,.string ⟨#[]⟩,.slice none 0 0] 137;rw [← hW1] at hL;have hA:=(aa.refl [] W1).alloc (.cells #[] 60);have hO0:=fw W1 (w.heap.size+2) (by omega);rw [hsz] at hO0;have a3:=ag (k:=3) (hA.at hL.1 (by simp)) rfl;have HL:=ah hL;have HK0:=ah hK0;have HA:=ah hA;have hlen:=hx.2.1;have hn:=hS.1;have hmm:=hS.2.1;have HS:=ah ((hS.kept hK0 (by simp)).kept hA (by simp));have HO0:=ah hO0;have hBs:w.heap.size+2≤(W1.alloc (.cells #[] 60)).heap.size:=by rw [World.size_alloc];omega
 clear hx hL hK0 hS hA;cases mo with
 | none =>
   obtain rfl:=hnil rfl;obtain rfl:m=0:=by omega
   have hxc:x.c=[]:=by simpa using hn
   obtain ⟨i0,hi0,_⟩:=info_parts iJ;have HI:=ah hi0;clear hi0 hn;subst hW1;go_enter Tryz.func80,Tryz.ntmps80;(go_wp2_with (at_builtin;refine wpList_append_own_none rfl _ _ 41 rfl (w.heap.size+2) 60 i0 3 Tryz.underlying41 HI.out _ 0 [] rfl HO0.out rfl ?_));have hL2:=lJ w #[.int .i64 x.r,.int .i64 x.b,.string (ak x.n),.slice (some ⟨w.heap.size+2,0,none⟩) 0 0] #[.int .i64 x.r,.int .i64 x.b,.string (ak x.n),.slice (some ⟨w.heap.size+2,0,none⟩) 0 0] 137;refine bodyPost_ret (pX (by rfl) _ (by rfl) ((Below.heap_alloc _ _ _ (by simp)).trans hL2.2) rfl) rfl ?_;have hO:=fw ((w.alloc (.cells #[.int .i64 x.r,.int .i64 x.b,.string (ak x.n),.slice (some ⟨w.heap.size+2,0,none⟩) 0 0] 137)).alloc (.cells #[.int .i64 x.r,.int .i64 x.b,.string (ak x.n),.slice (some ⟨w.heap.size+2,0,none⟩) 0 0] 137)) w.heap.size (by simp;omega);rw [World.size_alloc,World.size_alloc] at hO;exact ⟨_,rfl,hO,(((aa.refl _ _).alloc _).alloc _).alloc _⟩
 | some ad =>
   have HN:=ah hn;have HLn:Hid (([]:List Ch).length+x.c.length≤4398046511104):=by show _≤_;simp;omega
   clear hn hsz;subst hW1;go_enter Tryz.func80,Tryz.ntmps80;go_wp2_with (at_builtin;refine dV rfl _ _ rfl (w.heap.size+2) _ [] rfl HO0.out ad m mc x.c rfl HN.out.symm HS.out.runs' HLn.out hBs ?a1)
   case a1 =>
    intro v' w4 hO4 hg4;replace hO4:aP (w.heap.size+2) w4 v' x.c:=hO4;have HK4:=ah (bI HA.out HO0.out (by simp) hg4);obtain ⟨a',n',c',rfl,_,_⟩:=hO4.chV;have HO4:=ah (hO4.mono (show w.heap.size≤w.heap.size+2 by omega));clear hO4 hg4;have HA4:=ah (HK4.out.at HL.out.1 (by simp));have HB4:=ah (HK4.out.at HL.out.2 (by simp));have q0:=ag (k:=0) HA4.out rfl;have q1:=ag (k:=1) HA4.out rfl;have q2:=ag (k:=2) HA4.out rfl;have q3:=ag (k:=3) HA4.out rfl;have r0:=ag (k:=0) HB4.out rfl;have r1:=ag (k:=1) HB4.out rfl;have r2:=ag (k:=2) HB4.out rfl;have r3:=ag (k:=3) HB4.out rfl;have fa3:=aj HA4.out 3;have fb0:=aj HB4.out 0;have fb1:=aj HB4.out 1;have fb2:=aj HB4.out 2;have fb3:=aj HB4.out 3;clear a3;(go_wp2_with fail);have HKe:Hid (aa [w.heap.size,w.heap.size+1] w4 (uZ (w4.setCell ⟨w.heap.size,3,none⟩ (.slice a' n' c')) (w.heap.size+1) (.int .i64 x.r) (.int .i64 x.b) (.string (ak x.n)) (.slice a' n' c'))):=mM ((aa.refl _ w4).setCell (by simp) _) (by simp) _ _ _ _;refine bodyPost_ret (pX (by rfl) _ (by rfl) (rZ (((aa.refl [w.heap.size] w4).setCell (by simp) _).at HB4.out (by simp)) rfl _ _ _ _) rfl) rfl ?_;exact ⟨_,rfl,ap HKe.out (la HA4.out HB4.out) HO4.out (by decide),(HK0.out.trans HK4.out (by simp)).trans HKe.out (fun k hk=>.inr (by simp at hk;omega))⟩
theorem pT (w:World) (ao:Option Addr) (n c:Nat) (K:List (aV × Value)) (cs:List aV) (hS:iC w ao n c K) (hcom:K.map Prod.fst=cs) (hn:n≤2513169434843) (hok:∀ x∈cs,Cy x) :
 Calls Tryz.prog 93 #[.slice ao n c] w fun e w'=>C5 w cs e w':=by
 have hl:=hS.1;have hc:=hS.2.1;have hm:=hS.2.2.1;unfold maxLen at hm;have HS:=ah hS;have HL:=ah hl;have HCom:=ah hcom;have HOk:=ah hok;have HCl:Hid (cs.length=n):=by show _=_;rw [← hcom];simpa using hl
 clear hS hl hok hcom;go_enter Tryz.func93,Tryz.ntmps93;go_wp2_with fail
 go_loopw [3,4] (fun ov iv wr=>CI w cs ov iv wr) (fun _ iv _=>n - (intOf iv).toNat)
 case atStart=>exact ⟨0,[],rfl,Nat.zero_le _,rfl,bk.nil _ _,fun x hx=>(by cases hx),aa.refl _ _⟩
 case round =>
  obtain ⟨j,K',rfl,hj,HM,HR,HO,HK⟩:=hrel;by_cases hlt:j < n
  ·have hlt':(j:Int) < n:=by omega
   have hjc:j≤c:=by omega
   have hjK:j < K.length:=by rw [HL.out];exact hlt
   have hjg:j < cs.length:=by rw [HCl.out];exact hlt
   have hCk:=dm HCom.out hjK hjg;obtain ⟨g4,o4,he4,hx4⟩:=(HS.out.kept HK.out).2.2.2.1 j hjK;obtain ⟨mo,mm,mc,hm2,hsl,hmz⟩:=(HS.out.kept HK.out).2.2.2.2 _ (List.getElem_mem hjK);subst he4;obtain ⟨h40,h41,h42,h43⟩:=hx4;rw [hm2] at h43;rw [hCk] at h40 h41 h42 hsl;have hwc:=HOk.out cs[j] (List.getElem_mem hjg);have cK:=qX wr cs[j] mo mm mc hsl hmz hwc;obtain ⟨x,hxe⟩:∃ x,x=cs[j]:=⟨_,rfl⟩;have HX:Hid (cs[j]?=some x):=by show _=_;rw [hxe];simp
   rw [← hxe] at h40 h41 h42 cK;have hlenK:K'.length≤2513169434842:=by have h:=congrArg List.length HM.out;simp at h;omega
   clear hwc hsl hmz hxe hCk hjg hjK hm2;(go_wp2_with fail);refine cK.mono ?_;rintro _ w5 ⟨v5,rfl,hO5,hK5⟩;obtain ⟨a5,n5,c5,rfl,_,_⟩:=hO5.chV;have hRa:bk w.heap.size (w5.alloc (.cells #[.int .i64 x.r,.int .i64 x.b,.string (ak x.n),.slice a5 n5 c5] 137)) u3 K':=World.ownsRow.alloc (hK5.ownsRow HR.out (by simp)) _;have hsz5:w.heap.size≤w5.heap.size:=Nat.le_trans HK.out.size hK5.size;have HB:=uM (x:=(x,.slice a5 n5 c5)) rfl (heap_alloc_new w5 (.cells #[.int .i64 x.r,.int .i64 x.b,.string (ak x.n),.slice a5 n5 c5] 137));have HF:Hid (∀ v6 w6,bk w.heap.size w6 v6 (K'++[(x,.slice a5 n5 c5)])→(w5.alloc (.cells #[.int .i64 x.r,.int .i64 x.b,.string (ak x.n),.slice a5 n5 c5] 137)).grownBy w6 u3.ownBlock→CI w cs v6 (.int .i64 ((j+1:Nat):Int)) w6):=fun v6 w6 h1 h2=>uN HX.out HM.out HR.out HO.out HK.out hK5 hO5 h1 h2;clear hO5 hK5 cK h40 h41 h42 h43;go_wp2_with (at_builtin;refine qj rfl _ _ rfl w.heap.size _ K' rfl hRa ⟨w5.heap.size,0,none⟩ 1 1 [(x,.slice a5 n5 c5)] rfl rfl HB (by intro y hy;simp at hy;subst hy;rfl) (by simp;omega) (by simp;omega) ?b1)
   case b1 =>
    intro v6 w6 hO6 hg6;have HF2:=ah (HF.out v6 w6 hO6 hg6);clear hO6 hg6 hRa HB;(go_wp2_with fail);go_roundw
    case rel=>exact HF2.out
    case measure=>(simp [intOf] <;> omega)
  ·have hlt':¬ (j:Int) < n:=by omega
   have HE:Hid (K'.map Prod.fst=cs):=by have h:=HM.out;rw [List.take_of_length_le (by rw [HCl.out];omega)] at h;exact h
   (go_wp2_with fail);go_ret
   exact ⟨_,rfl,⟨K',HR.out,HO.out,HE.out⟩,HK.out⟩
theorem gp (w:World) (v:Vt) (u:Value) (hu:nU w u v.k) (hv:vh v) :
 Calls Tryz.prog 44 #[gA v u] w fun e w'=>∃ u',e=.returned (gA v u')∧cw w.heap.size w' u' v.k∧aa [] w w':=by
 obtain ⟨ao,n,c,K,rfl,hS,hcom,_⟩:=hu;have hnl:n≤2513169434843:=by have h1:=hv.2.1;rw [← hcom] at h1;have h2:=hS.1;simp at h1;omega
 obtain ⟨W1,hW1⟩:∃ W1,W1=(w.alloc (.cells #[.int .i64 v.c,.int .i64 v.s,.int .i64 v.r,.string (ak v.p),.int .u64 v.d,.slice ao n c,.int .i64 v.m] 39)).alloc (.cells #[.int .i64 0,.int .i64 0,.int .i64 0,.string ⟨#[]⟩,.int .u64 0,.slice none 0 0,.int .i64 0] 39):=⟨_,rfl⟩;have hK0:aa [] w W1:=by rw [hW1];exact ((aa.refl _ _).alloc _).alloc _
 have hL:=lJ w #[.int .i64 v.c,.int .i64 v.s,.int .i64 v.r,.string (ak v.p),.int .u64 v.d,.slice ao n c,.int .i64 v.m] #[.int .i64 0,.int .i64 0,.int .i64 0,.string ⟨#[]⟩,.int .u64 0,.slice none 0 0,.int .i64 0] 39;rw [← hW1] at hL;have HL:=ah hL;have HK0:=ah hK0;have cD:=pT W1 ao n c K v.k (hS.kept hK0) hcom hnl hv.2.2;unfold gA;clear hv hL hK0 hS hcom hnl;go_enter Tryz.func44,Tryz.ntmps44;go_wp2_with fail
 rw [← hW1];clear hW1;refine cD.mono ?_;rintro _ w4 ⟨v',rfl,hO,hK4⟩;obtain ⟨a',n',c',rfl⟩:=hO.ko.one;have hA4:=hK4.at HL.out.1 (by simp);have hB4:=hK4.at HL.out.2 (by simp);have q0:=ag (k:=0) hA4 rfl;have q1:=ag (k:=1) hA4 rfl;have q2:=ag (k:=2) hA4 rfl;have q3:=ag (k:=3) hA4 rfl;have q4:=ag (k:=4) hA4 rfl;have q5:=ag (k:=5) hA4 rfl;have q6:=ag (k:=6) hA4 rfl;have r0:=ag (k:=0) hB4 rfl;have r1:=ag (k:=1) hB4 rfl;have r2:=ag (k:=2) hB4 rfl;have r3:=ag (k:=3) hB4 rfl;have r4:=ag (k:=4) hB4 rfl;have r5:=ag (k:=5) hB4 rfl;have r6:=ag (k:=6) hB4 rfl;have fa5:=aj hA4 5;have fb0:=aj hB4 0;have fb1:=aj hB4 1;have fb2:=aj hB4 2;have fb3:=aj hB4 3;have fb4:=aj hB4 4;have fb5:=aj hB4 5;have fb6:=aj hB4 6;have HB4:=ah hB4;have HA4:=ah hA4;have HO:=ah hO;have HK4:=ah hK4;clear hO hK4 hA4 hB4 cD;go_wp2_with fail
 have HKe:Hid (aa [w.heap.size,w.heap.size+1] w4 (vd (w4.setCell ⟨w.heap.size,5,none⟩ (.slice a' n' c')) (w.heap.size+1) (.int .i64 v.c) (.int .i64 v.s) (.int .i64 v.r) (.string (ak v.p)) (.int .u64 v.d) (.slice a' n' c') (.int .i64 v.m))):=az ((aa.refl _ w4).setCell (by simp) _) (by simp) _ _ _ _ _ _ _;refine bodyPost_ret (bj (by rfl) _ (by rfl) (aD (((aa.refl [w.heap.size] w4).setCell (by simp) _).at HB4.out (by simp)) rfl _ _ _ _ _ _ _) rfl) rfl ?_;exact ⟨_,rfl,(HO.out.mono HK0.out.size).keep HKe.out (la HA4.out HB4.out) (by decide) (by decide),(HK0.out.trans HK4.out (by simp)).trans HKe.out (fun k hk=>.inr (by simp at hk;omega))⟩
variable {P : Nat → Prop}
structure eH (P:Nat→Prop) (w:World) (b sz:Nat) (v:Value) (X:List (Se × Value)) (L:List Se):Prop where
 at_:w.heap[b]?=some (.cells #[.int .i64 sz,v] 96 (0,0))
 row:bp 0 w v X
 own:∀ x∈X,io P w x.2 x.1.v.k
 ses:X.map Prod.fst=L
theorem eH.keep {w w':World}{b sz:Nat}{v:Value}{X:List (Se × Value)}{L:List Se}(h:eH P w b sz v X L) {S:List Nat}{Ts:List TypeId}(k:aa S w w') (hS:∀ i∈aW b v,i ∉ S) (hT:aJ w S Ts) (h1:137 ∉ Ts) (h2:60 ∉ Ts):eH P w' b sz v X L :=
 ⟨k.at h.at_ (hS b (by simp [aW])),k.ownsRow h.row (fun i hi=>hS i (by simp [aW,hi])),fun x hx=>(h.own x hx).keep k hT h1 h2,h.ses⟩
theorem eH.kept {w w':World}{b sz:Nat}{v:Value}{X:List (Se × Value)}{L:List Se}(h:eH P w b sz v X L) (k:aa [] w w'):eH P w' b sz v X L :=
 h.keep k (by simp) (cm w []) (by simp) (by simp)
theorem eH.lt {w:World}{b sz:Nat}{v:Value}{X:List (Se × Value)}{L:List Se}(h:eH P w b sz v X L):∀ k∈aW b v,k < w.heap.size:=by
 intro k hk;rcases List.mem_cons.1 hk with rfl | hk
 ·exact aq h.at_
 ·obtain ⟨c2,h2⟩:=ar h.row (aw.1 hk);exact aq h2
theorem eH.typed {w:World}{b sz:Nat}{v:Value}{X:List (Se × Value)}{L:List Se}(h:eH P w b sz v X L):aJ w (aW b v) [96,155]:=by
 intro k hk cur t' mk hh;rcases List.mem_cons.1 hk with rfl | hk
 ·rw [h.at_] at hh;cases hh;simp
 ·obtain ⟨c2,h2⟩:=ar h.row (aw.1 hk);rw [h2] at hh;cases hh;simp
theorem eH.cells {w:World}{b sz:Nat}{v:Value}{X:List (Se × Value)}{L:List Se}(h:eH P w b sz v X L):w.cell? ⟨b,0,none⟩=some (.int .i64 sz)∧w.cell? ⟨b,1,none⟩=some v :=
 ⟨ag h.at_ rfl,ag h.at_ rfl⟩
theorem eH.len {w:World}{b sz:Nat}{v:Value}{X:List (Se × Value)}{L:List Se}(h:eH P w b sz v X L):X.length=L.length:=by rw [← h.ses];simp
theorem eH.ones {w:World}{b sz:Nat}{v:Value}{X:List (Se × Value)}{L:List Se}(h:eH P w b sz v X L):∀ x∈X,x.2.oneCell'=true:=fun x hx=>by
 obtain ⟨_,_,_,e⟩:=(h.own x hx).ko.one;rw [e];rfl
def Bv (P:Nat→Prop) (w:World) (b sz:Nat) (v:Value) (L:List Se) (w':World):Prop :=
 ∃ v' X',eH P w' b sz v' X' L∧aa (aW b v) w w'∧∀ k,v'.ownBlock=some k→v.ownBlock=some k∨w.heap.size≤k
theorem eH.store {w w5:World}{b sz:Nat}{v v5:Value}{X X5:List (Se × Value)}{L L5:List Se}(h:eH P w b sz v X L) (hK:aa [] w w5) (hR:bp 0 w5 v5 X5) (ho:∀ x∈X5,io P w5 x.2 x.1.v.k) (he:X5.map Prod.fst=L5):eH P (w5.setCell ⟨b,1,none⟩ v5) b sz v5 X5 L5:=by
 have h5:=hK.at h.at_ (by simp);have hK2:aa [b] w5 (w5.setCell ⟨b,1,none⟩ v5):=(aa.refl _ _).setCell (by simp) _;exact ⟨heap_setCell_same w5 b 1 _ _ _ h5,ap hK2 (dw h5) hR (by decide),fun x hx=>(ho x hx).keep hK2 (dw h5) (by decide) (by decide),he⟩
theorem eH.new (w:World) (sz:Nat):eH P (w.alloc (.cells #[.int .i64 sz,.slice none 0 0] 96)) w.heap.size sz (.slice none 0 0) [] [] :=
 ⟨heap_alloc_new w _,bp.nil _ _,(fun _ hx=>by cases hx),rfl⟩
def DB (w:World) (size:Int) (e:Ending) (w':World):Prop :=
 (1≤size∧size≤16∧e=.returned (.tuple #[.pointer (some ⟨w.heap.size,0,none⟩),.int .i64 0])∧w'=w.alloc (.cells #[.int .i64 size,.slice none 0 0] 96)) ∨
 (¬ (1≤size∧size≤16)∧e=.returned (.tuple #[.pointer none,.int .i64 1])∧w'=w)
theorem mh (w:World) (size:Int) :
 Calls Tryz.prog 33 #[.int .i64 size] w fun e w'=>DB w size e w':=by
 by_cases h1:size < 1
 ·go_enter Tryz.func33,Tryz.ntmps33;go_wp2
  go_ret2
  exact .inr ⟨by omega,rfl,rfl⟩
 ·by_cases h2:16 < size
  ·go_enter Tryz.func33,Tryz.ntmps33;go_wp2
   go_ret2
   exact .inr ⟨by omega,rfl,rfl⟩
  ·go_enter Tryz.func33,Tryz.ntmps33;go_wp2
   go_ret2
   exact .inl ⟨by omega,by omega,rfl,rfl⟩
theorem jQ {w:World}{b sz:Nat}{v:Value}{X:List (Se × Value)}{L:List Se}(h:eH P w b sz v X L) (hl:L.length≤100000) (id:Int) :
 Calls Tryz.prog 129 #[.pointer (some ⟨b,0,none⟩),.int .i64 id] w fun e w'=>e=.returned (kI (ir id L))∧aa [] w w':=by
 obtain ⟨ao,c,hv,hc,hm,_,hat⟩:=h.row.t.shape;subst hv;unfold maxLen at hm;have HT:=ah h;have HA:=ah hat;have hXL:=h.len;have HXL:=ah hXL;have hn:X.length≤100000:=by omega
 clear h hat hXL;go_enter Tryz.func129,Tryz.ntmps129;go_wp2_with fail
 go_loopw [5] (fun iv wr=>DH w L (fun x=>decide (x.i=id)) iv wr) (fun iv _=>X.length - (intOf iv).toNat)
 case atStart=>exact ⟨0,rfl,Nat.zero_le _,fun k _ hk=>by omega,aa.refl _ _⟩
 case round =>
  obtain ⟨j,rfl,hj,HF,HK⟩:=hrel;have t1:=(HT.out.kept HK.out).cells.2;by_cases hlt:j < X.length
  ·have hlt':(j:Int) < X.length:=by omega
   have hjc:j≤c:=by omega
   have hjL:j < L.length:=by rw [← HXL.out];exact hlt
   have hCk:=dm HT.out.ses hlt hjL;obtain ⟨g,he,hx⟩:=HA.out j hlt;subst he;have h0:=(hx.kept HK.out (by simp)).c0;rw [hCk] at h0;have HT2:=ah (fun h=>lP (f:=fun x=>decide (x.i=id)) hjL HF.out h)
   have HF2:Hid (decide (L[j].i=id)=false→∀ k (h:k < L.length),k < j+1→(fun x:Se=>decide (x.i=id)) L[k]=false):=fun h k hk hk2=>by
    by_cases e:k=j
    ·subst e;exact h
    ·exact HF.out k hk (by omega)
   generalize L[j]=x at *;clear hx hCk;by_cases hd:x.i=id
   ·have HE:Hid (ir id L=some j):=HT2.out (by simpa using hd);(go_wp2_with fail);go_ret
    exact ⟨by rw [HE.out];rfl,HK.out⟩
   ·have HE:=ah (HF2.out (by simpa using hd));(go_wp2_with fail);go_roundw
    case rel=>exact ⟨j+1,by go_num,hjL,HE,HK⟩
    case measure=>simp [intOf];omega
  ·have hlt':¬ (j:Int) < X.length:=by omega
   have HE:Hid (ir id L=none):=jc (j:=j) (by rw [← HXL.out];exact hlt) HF.out;(go_wp2_with fail);go_ret
   exact ⟨by rw [HE.out];rfl,HK.out⟩
theorem mf {w:World}{b sz:Nat}{v:Value}{X:List (Se × Value)}{L:List Se}(h:eH P w b sz v X L) (hl:L.length≤100000) (i:Nat) (hi:i < L.length) :
 Calls Tryz.prog 128 #[.pointer (some ⟨b,0,none⟩),.int .i64 i] w fun e w'=>e=.returned (.tuple #[])∧Bv P w b sz v (fN L i) w':=by
 have hiX:i < X.length:=by rw [h.len];exact hi
 have hXl:X.length≤100000:=by rw [h.len];exact hl
 obtain ⟨ao,c,hv,hc,hm,_,hat⟩:=h.row.t.shape;subst hv;unfold maxLen at hm;obtain ⟨g,he,hx⟩:=hat i hiX;subst he;have hCk:=dm h.ses hiX hi;have hkoi:=h.own _ (List.getElem_mem hiX);obtain ⟨mo,mm,mc,hm2⟩:=hkoi.ko.one;obtain ⟨h0,h1,h2,h3,h4,h5,h6,h7,h8,h9⟩:=hx;rw [hCk] at h0 h1 h2 h3 h4 h5 h6 h7 h9 hkoi;rw [hm2] at h8 hkoi;have HU:Hid (fN L i=cn L i++[L[i]]):=by show _=_;unfold fN;rw [cy hi]
 generalize L[i]=x at *;obtain ⟨Wa,hWa⟩:∃ Wa,Wa=w.alloc (.cells #[.int .i64 x.i,.int .i64 x.q,.string (ak x.n),.int .i64 x.v.c,.int .i64 x.v.s,.int .i64 x.v.r,.string (ak x.v.p),.int .u64 x.v.d,.slice mo mm mc,.int .i64 x.v.m] 155):=⟨_,rfl⟩;have HKa:Hid (aa [] w Wa):=by show aa _ _ _;rw [hWa];exact (aa.refl _ _).alloc _
 have HBa:Hid (Wa.heap[w.heap.size]?=some (.cells #[.int .i64 x.i,.int .i64 x.q,.string (ak x.n),.int .i64 x.v.c,.int .i64 x.v.s,.int .i64 x.v.r,.string (ak x.v.p),.int .u64 x.v.d,.slice mo mm mc,.int .i64 x.v.m] 155 (0,0))):=by show _=_;rw [hWa];exact heap_alloc_new w _
 have HTa:=ah (h.kept HKa.out);have HKa2:=ah (hkoi.kept HKa.out);obtain ⟨c0,c1⟩:=h.cells;have HLt:Hid (i=(X.take i).length):=by show _=_;simp;omega
 have H1t:Hid (∀ x∈X.take i,x.2.oneCell'=true):=fun x hx=>h.ones x (List.mem_of_mem_take hx);have H1d:Hid (∀ x∈X.drop (i+1),x.2.oneCell'=true):=fun x hx=>h.ones x (List.mem_of_mem_drop hx);have HB1:Hid (([]:List (Se × Value)).length+(X.take i).length≤1000000000):=by show _≤_;simp;omega
 have HB2:Hid ((X.take i).length+(X.drop (i+1)).length≤1000000000):=by show _≤_;simp;omega
 have HB3:Hid ((cn X i).length+([(x,.slice mo mm mc)]:List (Se × Value)).length≤1000000000):=by show _≤_;rw [cu hiX];simp;omega
 have hii:(i:Int) < X.length:=by omega
 have hic:i≤c:=by omega
 clear h hat hkoi hm2 hCk;by_cases hck:c=i+1
 ·subst hck;have HDn:Hid (X.drop (i+1)=[]):=List.drop_of_length_le (by omega);have HD1:Hid (∀ {W:World}(j:Nat) (u:Value),((X.drop (i+1)).flatMap dU)[j]?=some u→W.cell? ((⟨g,0,none⟩:Addr).add j)=some u):=fun j u hj=>by rw [HDn.out] at hj;simp at hj
  go_enter Tryz.func128,Tryz.ntmps128;go_upto_region 1 with fail
  rw [← hWa];clear hWa h0 h1 h2 h3 h4 h5 h6 h7 h8 h9 c0 c1;have hO0:=jb Wa Wa.heap.size (Nat.le_refl _);have hA0:=(aa.refl [] Wa).alloc (.cells #[] 155);have d1:=(HTa.out.kept hA0).cells.2;have HR0:=ah (HTa.out.kept hA0).row.t;go_wp2_with (at_builtin;refine dT rfl _ _ rfl Wa.heap.size _ [] rfl hO0 ⟨g,0,none⟩ i _ (X.take i) rfl HLt.out ((HR0.out).run0 i) H1t.out HB1.out (by simp) ?p1)
  case p1 =>
   intro v1 w1 hR1 hg1;replace hR1:bp Wa.heap.size w1 v1 (X.take i):=hR1;have HK1:=ah (hA0.grown hg1 fun k hk=>.inr (World.ownsRow.lt hO0 k hk).1);have HR1:=ah hR1;have d1b:=(HTa.out.kept HK1.out).cells.2;have HRw1:=ah (HTa.out.kept HK1.out).row.t;have hs1:Wa.heap.size≤w1.heap.size:=HK1.out.size;clear hR1 hg1 hO0 hA0 d1 HR0;go_wp2_with (at_builtin;refine dT rfl _ _ rfl Wa.heap.size _ (X.take i) rfl HR1.out ⟨g,0,none⟩ _ _ (X.drop (i+1)) rfl (by rw [HDn.out];first | rfl | (simp;omega)) HD1.out H1d.out HB2.out hs1 ?p2)
   case p2 =>
    intro v2 w2 hR2 hg2;replace hR2:bp Wa.heap.size w2 v2 (cn X i):=hR2;have HK2:=ah (HK1.out.grown hg2 fun k hk=>.inr (World.ownsRow.lt HR1.out k hk).1);have hB2:=HK2.out.at HBa.out (by simp);have s0:=ag (k:=0) hB2 rfl;have s1:=ag (k:=1) hB2 rfl;have s2:=ag (k:=2) hB2 rfl;have s3:=ag (k:=3) hB2 rfl;have s4:=ag (k:=4) hB2 rfl;have s5:=ag (k:=5) hB2 rfl;have s6:=ag (k:=6) hB2 rfl;have s7:=ag (k:=7) hB2 rfl;have s8:=ag (k:=8) hB2 rfl;have s9:=ag (k:=9) hB2 rfl;have hs2:Wa.heap.size≤w2.heap.size:=HK2.out.size;have hK3:=(aa.refl [] w2).alloc (.cells #[.int .i64 x.i,.int .i64 x.q,.string (ak x.n),.int .i64 x.v.c,.int .i64 x.v.s,.int .i64 x.v.r,.string (ak x.v.p),.int .u64 x.v.d,.slice mo mm mc,.int .i64 x.v.m] 155);have hRa:bp Wa.heap.size (w2.alloc (.cells #[.int .i64 x.i,.int .i64 x.q,.string (ak x.n),.int .i64 x.v.c,.int .i64 x.v.s,.int .i64 x.v.r,.string (ak x.v.p),.int .u64 x.v.d,.slice mo mm mc,.int .i64 x.v.m] 155)) v2 (cn X i):=World.ownsRow.alloc hR2 _;have HNw:=eT (x:=(x,.slice mo mm mc)) rfl (heap_alloc_new w2 (.cells #[.int .i64 x.i,.int .i64 x.q,.string (ak x.n),.int .i64 x.v.c,.int .i64 x.v.s,.int .i64 x.v.r,.string (ak x.v.p),.int .u64 x.v.d,.slice mo mm mc,.int .i64 x.v.m] 155));clear hR2 hg2 hB2 d1b;go_wp2_with (at_builtin;refine dT rfl _ _ rfl Wa.heap.size _ (cn X i) rfl hRa ⟨w2.heap.size,0,none⟩ 1 1 [(x,.slice mo mm mc)] rfl rfl HNw (by intro y hy;simp at hy;subst hy;rfl) HB3.out (by simp;omega) ?p3)
    case p3 =>
     intro v3 w3 hR3 hg3;have HK3:=ah ((HK2.out.trans hK3 (by simp)).grown hg3 fun k hk=>.inr (World.ownsRow.lt hRa k hk).1);obtain ⟨ao3,n3,c3,rfl⟩:=hR3.t.one;have hT3:=HTa.out.kept HK3.out;obtain ⟨e0,e1⟩:=hT3.cells;have fz:=aj hT3.at_ 1
     have HE:=ah (HTa.out.store HK3.out (hR3.mono (Nat.zero_le _)) (L5:=fN L i) (fun y hy=>by
      rcases List.mem_append.1 hy with hy | hy
      ·exact (HTa.out.own y (eI hy)).kept HK3.out
      ·simp at hy;subst hy
       exact HKa2.out.kept HK3.out) (by rw [List.map_append,gd,HTa.out.ses,HU.out];rfl))
     have HV3:Hid (∀ k,(Value.slice ao3 n3 c3).ownBlock=some k→w.heap.size≤k):=fun k hk=>Nat.le_trans HKa.out.size (World.ownsRow.lt hR3 k hk).1;clear hR3 hg3 hRa HNw hK3 hT3 s0 s1 s2 s3 s4 s5 s6 s7 s8 s9;(go_wp2_with fail);go_returns
     exact ⟨rfl,_,_,HE.out,((HKa.out.trans HK3.out (by simp)).mono (by simp)).setCell (.inl (by simp [aW])) _,fun k hk=>.inr (HV3.out k hk)⟩
 ·have HLd:Hid (X.length - (i+1)=(X.drop (i+1)).length):=by show _=_;simp
  go_enter Tryz.func128,Tryz.ntmps128;go_upto_region 1 with fail
  rw [← hWa];clear hWa h0 h1 h2 h3 h4 h5 h6 h7 h8 h9 c0 c1;have hO0:=jb Wa Wa.heap.size (Nat.le_refl _);have hA0:=(aa.refl [] Wa).alloc (.cells #[] 155);have d1:=(HTa.out.kept hA0).cells.2;have HR0:=ah (HTa.out.kept hA0).row.t;go_wp2_with (at_builtin;refine dT rfl _ _ rfl Wa.heap.size _ [] rfl hO0 ⟨g,0,none⟩ i _ (X.take i) rfl HLt.out ((HR0.out).run0 i) H1t.out HB1.out (by simp) ?p1)
  case p1 =>
   intro v1 w1 hR1 hg1;replace hR1:bp Wa.heap.size w1 v1 (X.take i):=hR1;have HK1:=ah (hA0.grown hg1 fun k hk=>.inr (World.ownsRow.lt hO0 k hk).1);have HR1:=ah hR1;have d1b:=(HTa.out.kept HK1.out).cells.2;have HRw1:=ah (HTa.out.kept HK1.out).row.t;have hs1:Wa.heap.size≤w1.heap.size:=HK1.out.size;clear hR1 hg1 hO0 hA0 d1 HR0;go_wp2_with (at_builtin;refine dT rfl _ _ rfl Wa.heap.size _ (X.take i) rfl HR1.out ⟨g,(i+1)*10,none⟩ (X.length - (i+1)) (c - (i+1)) (X.drop (i+1)) rfl HLd.out (HRw1.out.runs (i+1)) H1d.out HB2.out hs1 ?p2)
   case p2 =>
    intro v2 w2 hR2 hg2;replace hR2:bp Wa.heap.size w2 v2 (cn X i):=hR2;have HK2:=ah (HK1.out.grown hg2 fun k hk=>.inr (World.ownsRow.lt HR1.out k hk).1);have hB2:=HK2.out.at HBa.out (by simp);have s0:=ag (k:=0) hB2 rfl;have s1:=ag (k:=1) hB2 rfl;have s2:=ag (k:=2) hB2 rfl;have s3:=ag (k:=3) hB2 rfl;have s4:=ag (k:=4) hB2 rfl;have s5:=ag (k:=5) hB2 rfl;have s6:=ag (k:=6) hB2 rfl;have s7:=ag (k:=7) hB2 rfl;have s8:=ag (k:=8) hB2 rfl;have s9:=ag (k:=9) hB2 rfl;have hs2:Wa.heap.size≤w2.heap.size:=HK2.out.size;have hK3:=(aa.refl [] w2).alloc (.cells #[.int .i64 x.i,.int .i64 x.q,.string (ak x.n),.int .i64 x.v.c,.int .i64 x.v.s,.int .i64 x.v.r,.string (ak x.v.p),.int .u64 x.v.d,.slice mo mm mc,.int .i64 x.v.m] 155);have hRa:bp Wa.heap.size (w2.alloc (.cells #[.int .i64 x.i,.int .i64 x.q,.string (ak x.n),.int .i64 x.v.c,.int .i64 x.v.s,.int .i64 x.v.r,.string (ak x.v.p),.int .u64 x.v.d,.slice mo mm mc,.int .i64 x.v.m] 155)) v2 (cn X i):=World.ownsRow.alloc hR2 _;have HNw:=eT (x:=(x,.slice mo mm mc)) rfl (heap_alloc_new w2 (.cells #[.int .i64 x.i,.int .i64 x.q,.string (ak x.n),.int .i64 x.v.c,.int .i64 x.v.s,.int .i64 x.v.r,.string (ak x.v.p),.int .u64 x.v.d,.slice mo mm mc,.int .i64 x.v.m] 155));clear hR2 hg2 hB2 d1b;go_wp2_with (at_builtin;refine dT rfl _ _ rfl Wa.heap.size _ (cn X i) rfl hRa ⟨w2.heap.size,0,none⟩ 1 1 [(x,.slice mo mm mc)] rfl rfl HNw (by intro y hy;simp at hy;subst hy;rfl) HB3.out (by simp;omega) ?p3)
    case p3 =>
     intro v3 w3 hR3 hg3;have HK3:=ah ((HK2.out.trans hK3 (by simp)).grown hg3 fun k hk=>.inr (World.ownsRow.lt hRa k hk).1);obtain ⟨ao3,n3,c3,rfl⟩:=hR3.t.one;have hT3:=HTa.out.kept HK3.out;obtain ⟨e0,e1⟩:=hT3.cells;have fz:=aj hT3.at_ 1
     have HE:=ah (HTa.out.store HK3.out (hR3.mono (Nat.zero_le _)) (L5:=fN L i) (fun y hy=>by
      rcases List.mem_append.1 hy with hy | hy
      ·exact (HTa.out.own y (eI hy)).kept HK3.out
      ·simp at hy;subst hy
       exact HKa2.out.kept HK3.out) (by rw [List.map_append,gd,HTa.out.ses,HU.out];rfl))
     have HV3:Hid (∀ k,(Value.slice ao3 n3 c3).ownBlock=some k→w.heap.size≤k):=fun k hk=>Nat.le_trans HKa.out.size (World.ownsRow.lt hR3 k hk).1;clear hR3 hg3 hRa HNw hK3 hT3 s0 s1 s2 s3 s4 s5 s6 s7 s8 s9;(go_wp2_with fail);go_returns
     exact ⟨rfl,_,_,HE.out,((HKa.out.trans HK3.out (by simp)).mono (by simp)).setCell (.inl (by simp [aW])) _,fun k hk=>.inr (HV3.out k hk)⟩
end Go.Proofs.YtgpnlidnbldiiaaGreat
