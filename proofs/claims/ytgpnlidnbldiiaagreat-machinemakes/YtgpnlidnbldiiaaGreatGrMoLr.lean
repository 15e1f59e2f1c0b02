/-
  The document's own graph: SameCommit of any two, Load.
-/
import Derived.Test.YtgpnlidnbldiiaaGreatQ2r
import Derived.Test.YtgpnlidnbldiiaaGreatM11r
import Derived.Test.YtgpnlidnbldiiaaGreatQ8r
import Derived.Test.YtgpnlidnbldiiaaGreatQ11r
import Derived.Deep.CutRange
import Derived.Deep.QuietTactic
import Derived.BigQuiet
import Derived.Laws.ResultCell
import Derived.Handy
set_option maxHeartbeats 16000000
namespace Go.Proofs.YtgpnlidnbldiiaaGreat
open Go.RowKit
theorem iH {p:Prop}(h:p):Hid p:=h
theorem qM (w:World) (r1 r2 b:Int) (n:List UInt8) (ao bo:Option Addr) (n1 m1 c1 d1:Nat) (L M:List Ch) (h1:di w ao n1 c1 L) (h2:di w bo m1 d1 M) :
 Calls Tryz.prog 73 #[.agg #[.int .i64 r1,.int .i64 b,.string (ak n),.slice ao n1 c1],.agg #[.int .i64 r2,.int .i64 b,.string (ak n),.slice bo m1 d1]] w fun e w'=>e=.returned (.bool (decide (r1=r2) && decide (L=M)))∧aa [] w w':=by
 have hKa:aa [] w ((w.alloc (.cells #[.int .i64 r1,.int .i64 b,.string (ak n),.slice ao n1 c1] 137)).alloc (.cells #[.int .i64 r2,.int .i64 b,.string (ak n),.slice bo m1 d1] 137)):=((aa.refl [] w).alloc _).alloc _;have cS:=mE _ ao bo n1 m1 c1 d1 L M (h1.kept hKa (by simp)) (h2.kept hKa (by simp));generalize decide (L=M)=bb at *;clear h1 h2;by_cases hr:r1=r2
 ·subst hr;have hd:decide (r1=r1)=true:=decide_eq_true rfl;rw [hd,Bool.true_and];go_enter Tryz.func73,Tryz.ntmps73;(go_wp2_with fail);refine cS.mono ?_;rintro _ w1 ⟨rfl,hK⟩;(go_wp2_with fail);go_ret
  exact ⟨rfl,hKa.trans hK (by simp)⟩
 ·rw [decide_eq_false hr,Bool.false_and];have hrb:(r1==r2)=false:=by simpa using hr
  clear hr;go_enter Tryz.func73,Tryz.ntmps73;(go_wp2_with fail);go_ret
  exact ⟨rfl,hKa⟩
def vq (w0 w:World) (b:Nat) (G:Gr):Prop:=∃ M,vl w b M G∧aa [] w0 w∧∀ k∈M,w0.heap.size≤k
theorem vq.keeps {w0 w:World}{b:Nat}{G:Gr}(h:vq w0 w b G):aa [] w0 w:=by obtain ⟨M,_,h,_⟩:=h;exact h
theorem vq.kept {w0 w w':World}{b:Nat}{G:Gr}(h:vq w0 w b G) (k:aa [] w w'):vq w0 w' b G:=by
 obtain ⟨M,h1,h2,h3⟩:=h;exact ⟨M,h1.kept k,h2.trans k (by simp),h3⟩
theorem vq.parts {w0 w:World}{b:Nat}{G:Gr}(h:vq w0 w b G):∃ a0 n0 c0 a1 n1 c1 a2 n2 c2 K,MA w b (.slice a0 n0 c0) (.slice a1 n1 c1) (.slice a2 n2 c2) K G∧gQ G.ls (.slice a1 n1 c1)∧iC w a0 n0 c0 K∧∀ k,(Value.slice a0 n0 c0).ownBlock=some k→w0.heap.size≤k:=by
 obtain ⟨M,⟨v,vL,vR,K,hm,hn,rfl⟩,_,hMb⟩:=h;obtain ⟨aoC,cpC,rfl,hsC,_⟩:=hm.row.sl hm.own;obtain ⟨aoL,cpL,rfl,_⟩:=hm.lvs.sl;obtain ⟨aoR,cpR,rfl,_⟩:=hm.rfs.at;exact ⟨_,_,_,_,_,_,_,_,_,K,hm,hn,hsC,fun k hk=>hMb k (by simp [bf,hk])⟩
theorem A8 (w:World):vq w (w.alloc (.cells #[.slice none 0 0,.slice none 0 0,.slice none 0 0] 82)) w.heap.size ba:=by
 refine ⟨_,⟨_,_,_,[],MA.new w,fun _=>.inl rfl,rfl⟩,(aa.refl [] w).alloc _,fun k hk=>?_⟩;simp [bf,Value.ownBlock] at hk
 subst hk;exact Nat.le_refl _
def Dt (w w':World):Prop:=∀ (k:Nat) (vs:Array Value) (t:TypeId),w.heap[k]?=some (.cells vs t (0,0))→t≠82→t≠137→w'.heap[k]?=some (.cells vs t (0,0))
theorem zW {w0 w:World}{b:Nat}{G:Gr}(h:vq w0 w b G) (hW:Wf G) (hl:G.cs.length≤10000)
 (base:Int) (n:List UInt8) (hn:n.length≤1000000) (ao:Option Addr) (m c:Nat) (L:List Ch) (hS:di w ao m c L) (hm:m≤1000000) (hp:∀ x∈L,x.p.length≤1000000000) :
 Calls Tryz.prog 110 #[.pointer (some ⟨b,0,none⟩),.int .i64 base,.string (ak n),.slice ao m c] w fun e w'=>e=.returned (sH (bi G base n L))∧vq w0 w' b (bB G base n L)∧Dt w w':=by
 obtain ⟨M,h2,h4,h6⟩:=h;have hT:=h2.typed;obtain ⟨v,vL,vR,K,hM,hnl,rfl⟩:=h2;refine (uE hM hnl hW hl base n hn ao m c L hS hm hp).mono fun e w' ⟨he,M',g1,k1,hs'⟩=>⟨he,⟨M',g1,h4.trans k1 (fun i hi=>.inr (h6 i hi)),fun k hk=>?_⟩,fun k vs t hk ht2 ht3=>k1.typed hT hk (by simp [ht2,ht3])⟩;rcases hs' k hk with h7 | h7
 ·exact h6 k h7
 ·exact Nat.le_trans h4.size h7
theorem AQ {w0 w w':World}{b Bk:Nat}{G:Gr}{cur:Array Value}{mk:Nat × Nat}(h:vq w0 w b G) (hB:w.heap[Bk]?=some (.cells cur 39 mk)) (k:aa [Bk] w w') (hlt:w0.heap.size≤Bk):vq w0 w' b G:=by
 obtain ⟨M,h2,h4,h6⟩:=h
 have hT:aJ w [Bk] [39]:=fun i hi cur' t' mk' hh=>by
  rw [List.mem_singleton] at hi;subst hi;rw [hB] at hh;cases hh;simp
 refine ⟨M,h2.keep k (fun i hi hm=>?_) hT (by decide) (by decide) (by decide),h4.trans k (fun i hi=>?_),h6⟩
 ·rw [List.mem_singleton] at hm;subst hm;exact absurd (h2.typed i hi _ _ _ hB) (by decide)
 ·rw [List.mem_singleton] at hi;subst hi;exact .inr hlt
theorem zu {w w3:World}{v0 v1 v2 v3 v4 v5 v6:Value}(hO:Dt (w.alloc (.cells #[v0,v1,v2,v3,v4,v5,v6] 39)).drew w3):Hid (w3.heap[w.heap.size]?=some (.cells #[v0,v1,v2,v3,v4,v5,v6] 39 (0,0))) :=
 hO _ _ _ (heap_alloc_new w _) (by decide) (by decide)
def Ej (w:World):Option Gr→Ending→World→Prop
 | none,e,w'=>e=.returned (.tuple #[.agg #[.slice none 0 0,.slice none 0 0,.slice none 0 0],.int .i64 4])∧aa [] w w'
 | some G,e,w'=>∃ a0 n0 c0 a1 n1 c1 a2 n2 c2,e=.returned (.tuple #[.agg #[.slice a0 n0 c0,.slice a1 n1 c1,.slice a2 n2 c2],.int .i64 0])∧(∃ M,vl (w'.alloc (.cells #[.slice a0 n0 c0,.slice a1 n1 c1,.slice a2 n2 c2] 82)) w'.heap.size M G)∧aa [] w w'∧∀ k,(Value.slice a0 n0 c0).ownBlock=some k→w.heap.size≤k
theorem An {wr:World}{b h0:Nat}{v vL vR:Value}{K:List (aV × Value)}{G:Gr}{vs:Array Value}(h:MA wr b v vL vR K G) (hnl:gQ G.ls vL) (hat:wr.heap[h0]?=some (.cells vs 82 (0,0))) :
 ∃ M,vl ((((wr.setCell ⟨h0,0,none⟩ v).setCell ⟨h0,1,none⟩ vL).setCell ⟨h0,2,none⟩ vR).alloc (.cells #[v,vL,vR] 82)) (((wr.setCell ⟨h0,0,none⟩ v).setCell ⟨h0,1,none⟩ vL).setCell ⟨h0,2,none⟩ vR).heap.size M G:=by
 have hk:aa [h0] wr (((wr.setCell ⟨h0,0,none⟩ v).setCell ⟨h0,1,none⟩ vL).setCell ⟨h0,2,none⟩ vR):=(((aa.refl _ _).setCell (.inl (by simp)) _).setCell (.inl (by simp)) _).setCell (.inl (by simp)) _
 have hT:aJ wr [h0] [82]:=fun k hk cur t' mk hh=>by
  simp at hk;subst hk;rw [hat] at hh;cases hh;simp
 have ha:=(aa.refl [] (((wr.setCell ⟨h0,0,none⟩ v).setCell ⟨h0,1,none⟩ vL).setCell ⟨h0,2,none⟩ vR)).alloc (.cells #[v,vL,vR] 82);exact ⟨_,v,vL,vR,K,⟨heap_alloc_new _ _,ha.ownsRow (ap hk hT h.row (by decide)) (by simp),fun x hx=>ha.ownsRow (ap hk hT (h.own x hx) (by decide)) (by simp),h.com,ha.ownsRow (ap hk hT h.lvs (by decide)) (by simp),ha.ownsRow (ap hk hT h.rfs (by decide)) (by simp)⟩,hnl,rfl⟩
def DM (W0:World) (b:Nat) (cs:List aV) (iv:Value) (wr:World):Prop:=∃ (i:Nat) (G:Gr),iv=.int .i64 (i:Int)∧i≤cs.length∧Hid (vq W0 wr b G)∧Hid (bQ ba (cs.take i)=some G)
theorem wy {cs:List aV}{i:Nat}(h:i < cs.length) {G:Gr}(hG:bQ ba (cs.take i)=some G):bQ ba (cs.take (i+1))=dO G cs[i]:=by
 rw [List.take_succ_eq_append_getElem h,gL,hG];show (dO G cs[i]).bind _=_;cases dO G cs[i] <;> rfl
theorem ol {cs:List aV}{i:Nat}(h:bQ ba (cs.take i)=none):bQ ba cs=none:=by
 rw [← List.take_append_drop i cs,gL,h];rfl
set_option linter.unusedSimpArgs false in
set_option maxRecDepth 100000 in
theorem tu (w:World) (ao:Option Addr) (n c:Nat) (K:List (aV × Value)) (hS:iC w ao n c K) (hn:n≤10000) (hK:∀ x∈K,x.1.n.length≤1000000∧x.1.c.length≤1000000∧∀ y∈x.1.c,y.p.length≤1000000000) :
 Calls Tryz.prog 61 #[.slice ao n c] w fun e w'=>Ej w (bQ ba (K.map Prod.fst)) e w':=by
 obtain ⟨W0,hW0⟩:∃ W0,W0=w.alloc (.cells #[.slice none 0 0,.slice none 0 0,.slice none 0 0] 82):=⟨_,rfl⟩;have hsz:W0.heap.size=w.heap.size+1:=by rw [hW0,World.size_alloc]
 have hK0:aa [] w W0:=by rw [hW0];exact (aa.refl _ _).alloc _
 have hQ:W0.heap[w.heap.size]?=some (.cells #[.slice none 0 0,.slice none 0 0,.slice none 0 0] 82 (0,0)):=by rw [hW0];exact heap_alloc_new w _
 have hM:=A8 W0;rw [hsz] at hM;have hl:=hS.1;subst hl;have hc:=hS.2.1;have hm:=hS.2.2.1;unfold maxLen at hm;have HS:Hid (iC W0 ao K.length c K):=hS.kept hK0;have HB:=iH hK;have HQ:=iH hQ;have HK0:=iH hK0;have HM:=iH hM;obtain ⟨cs,hcs⟩:∃ cs,cs=K.map Prod.fst:=⟨_,rfl⟩;have HCs:=iH hcs;have HCl:Hid (cs.length=K.length):=by rw [hcs];simp;exact trivial
 rw [← hcs];obtain ⟨nk,hnk⟩:∃ nk,nk=K.length:=⟨_,rfl⟩;have HNk:=iH hnk;rw [← hnk] at hc hn ⊢;clear hS hK hQ hK0 hM hcs hnk hsz;go_enter Tryz.func61,Tryz.ntmps61;go_wp2_with fail
 rw [← hW0];go_loopw [5] (fun iv wr=>DM W0 (w.heap.size+1) cs iv wr) (fun iv _=>nk - (intOf iv).toNat)
 case atStart=>exact ⟨0,ba,rfl,Nat.zero_le _,HM.out,rfl⟩
 case round =>
  clear hW0;obtain ⟨i,G,rfl,hi,HMr,HLd⟩:=hrel;have hQr:=HMr.out.keeps.at HQ.out (by simp)
  have HWf:Hid (Wf G∧G.cs.length=i):=by
   obtain ⟨h1,h2⟩:=mQ lQ HLd.out;refine ⟨h1,?_⟩;rw [h2];simp [ba];omega
  by_cases hlt:i < nk
  ·have hlt':(i:Int) < nk:=by omega
   have hic:i≤c:=by omega
   have hiK:i < K.length:=by rw [← HNk.out];exact hlt
   have hics:i < cs.length:=by rw [HCl.out];exact hiK
   have HX:Hid (cs[i]=K[i].1):=by show cs[i]=K[i].1;have h:=HCs.out;subst h;simp
   obtain ⟨g,o,rfl,hx⟩:=HS.out.2.2.2.1 i hiK;obtain ⟨mo,mm,mc,hmv,hsl,hnil⟩:=HS.out.2.2.2.2 _ (List.getElem_mem hiK);obtain ⟨hb1,hb2,hb3⟩:=HB.out _ (List.getElem_mem hiK);obtain ⟨k0,k1,k2,k3⟩:=hx;rw [hmv] at k3;have HSt:=iH (wy hics HLd.out);rw [HX.out] at HSt;obtain ⟨x,hxe⟩:∃ x,x=K[i].1:=⟨_,rfl⟩;rw [← hxe] at k0 k1 k2 hsl hb1 hb2 hb3 HSt;have HSl:=iH hsl;have E0:=iH k0;have E1:=iH k1;have E2:=iH k2;have E3:=iH k3;have hmm:mm≤1000000:=by have:=hsl.1;omega
   have cL:=fun W (hk:aa [] wr W)=>zW (HMr.out.kept hk) HWf.out.1 (by have:=HWf.out.2;omega) x.b x.n hb1 mo mm mc x.c ((hsl.kept HMr.out.keeps (by simp)).kept hk (by simp)) hmm hb3;have c0:=HMr.out.keeps.cell k0 (by simp);have c1:=HMr.out.keeps.cell k1 (by simp);have c2:=HMr.out.keeps.cell k2 (by simp);have c3:=HMr.out.keeps.cell k3 (by simp);obtain ⟨G2,hG2⟩:∃ G2,G2=bB G x.b x.n x.c:=⟨_,rfl⟩;obtain ⟨vv,hvv⟩:∃ vv,vv=bi G x.b x.n x.c:=⟨_,rfl⟩;have HG2:=iH hG2;have HVV:=iH hvv;rw [← hG2,← hvv] at cL;simp only [sH,DF] at cL;clear hmv hxe hG2 hvv hsl hnil hb1 hb2 hb3;go_upto_region 5 with fail
   go_cut [6] from 8 to 46 (fun s6 wx=>∃ Bk:Nat,s6=.pointer (some ⟨Bk,0,none⟩)∧wx.heap[Bk]?=some (.cells #[.int .i64 vv.c,.int .i64 0,.int .i64 vv.r,.string (ak vv.p),.int .u64 vv.d,.slice none 0 0,.int .i64 0] 39 (0,0))∧Hid (vq W0 wx (w.heap.size+1) G2))
   case first =>
    refine wp_region_held_drew (S:=fun w'=>w'.cell? ⟨g,o+i*4+1,none⟩=some (.int .i64 x.b)∧w'.cell? ⟨g,o+i*4+2,none⟩=some (.string (ak x.n))∧w'.cell? ⟨g,o+i*4+3,none⟩=some (.slice mo mm mc)) (by kernel_rfl) ⟨c1,c2,c3⟩ (fun hHeld=>?_);refine tk 0 ?_ rfl (by kernel_rfl) (fun _ _ _ h=>h) (Or.inl ⟨by rfl,?_⟩) hHeld ?_;rotate_left
    ·intro w9 hSw;(try dsimp only at hSw);go_simp;(try with_reducible rfl)
    (try simp only [sT,Act.put]);refine tk 1 ?_ rfl (by kernel_rfl) (fun _ _ _ h=>h) (Or.inl ⟨by rfl,?_⟩) hHeld ?_;rotate_left
    ·intro w9 hSw;(try dsimp only at hSw);go_simp;(try with_reducible rfl)
    (try simp only [sT,Act.put]);refine tk 2 ?_ rfl (by kernel_rfl) (fun _ _ _ h=>h) (Or.inl ⟨by rfl,?_⟩) hHeld ?_;rotate_left
    ·intro w9 hSw;(try dsimp only at hSw);go_simp;(try with_reducible rfl)
    (try simp only [sT,Act.put]);refine tk 3 ?_ rfl (by kernel_rfl) (fun _ _ _ h=>h) (Or.inl ⟨by rfl,?_⟩) hHeld ?_;rotate_left
    ·intro w9 hSw;(try dsimp only at hSw);go_simp;(try with_reducible rfl)
    (try simp only [sT,Act.put]);refine tk 4 ?_ rfl (by kernel_rfl) (fun _ _ _ h=>h) (Or.inl ⟨by rfl,?_⟩) hHeld ?_;rotate_left
    ·intro w9 hSw;(try dsimp only at hSw);go_simp;(try with_reducible rfl)
    (try simp only [sT,Act.put]);refine tk 5 ?_ rfl (by kernel_rfl) (fun _ _ _ h=>h) (Or.inl ⟨by rfl,?_⟩) hHeld ?_;rotate_left
    ·intro w9 hSw;(try dsimp only at hSw);go_simp;(try with_reducible rfl)
    (try simp only [sT,Act.put]);refine tk 6 ?_ rfl (by kernel_rfl) (fun _ _ _ h=>h) (Or.inl ⟨by rfl,?_⟩) hHeld ?_;rotate_left
    ·intro w9 hSw;(try dsimp only at hSw);go_simp;(try with_reducible rfl)
    (try simp only [sT,Act.put]);refine tk 7 ?_ rfl (by kernel_rfl) (fun _ _ _ h=>h) (Or.inl ⟨by rfl,?_⟩) hHeld ?_;rotate_left
    ·intro w9 hSw;(try dsimp only at hSw);go_simp;(try with_reducible rfl)
    (try simp only [sT,Act.put]);refine tk 8 ?_ rfl (by kernel_rfl) (fun _ _ _ h=>h) (Or.inl ⟨by rfl,?_⟩) hHeld ?_;rotate_left
    ·intro w9 hSw;(try dsimp only at hSw);go_simp;(try with_reducible rfl)
    (try simp only [sT,Act.put]);refine tk 9 ?_ rfl (by kernel_rfl) (fun _ _ _ h=>h) (Or.inl ⟨by rfl,?_⟩) hHeld ?_;rotate_left
    ·intro w9 hSw;(try dsimp only at hSw);go_simp;(try with_reducible rfl)
    (try simp only [sT,Act.put]);refine tk 10 ?_ rfl (by kernel_rfl) (fun _ _ _ h=>h) (Or.inl ⟨by rfl,?_⟩) hHeld ?_;rotate_left
    ·intro w9 hSw;(try dsimp only at hSw);go_simp;(try with_reducible rfl)
    (try simp only [sT,Act.put]);refine tk 11 ?_ rfl (by kernel_rfl) (fun _ _ _ h=>h) (Or.inl ⟨by rfl,?_⟩) hHeld ?_;rotate_left
    ·intro w9 hSw;(try dsimp only at hSw);go_simp;(try with_reducible rfl)
    (try simp only [sT,Act.put]);refine tk 12 ?_ rfl (by kernel_rfl) (fun _ _ _ h=>h) (Or.inl ⟨by rfl,?_⟩) hHeld ?_;rotate_left
    ·intro w9 hSw;(try dsimp only at hSw);go_simp;(try with_reducible rfl)
    (try simp only [sT,Act.put]);refine tk 13 ?_ rfl (by kernel_rfl) (fun _ _ _ h=>h) (Or.inl ⟨by rfl,?_⟩) hHeld ?_;rotate_left
    ·intro w9 hSw;(try dsimp only at hSw);go_simp;(try with_reducible rfl)
    (try simp only [sT,Act.put]);refine tk 14 ?_ rfl (by kernel_rfl) (fun _ _ _ h=>h) (Or.inl ⟨by rfl,?_⟩) hHeld ?_;rotate_left
    ·intro w9 hSw;(try dsimp only at hSw);go_simp;(try with_reducible rfl)
    (try simp only [sT,Act.put]);refine wpAnyH_ready (rs:=[15,16]) (by kernel_rfl) (by simp) (AllReadyH.cons rfl (fun K0 hK0=>?_) (AllReadyH.cons rfl (fun K0 hK0=>?_) AllReadyH.nil))
    ·go_simp;refine (cL _ (aa.refl [] _).drew).mono ?_;rintro e w3 ⟨rfl,hL3,hO3⟩;(go_wp2_with fail);refine hK0.out _ _ ⟨hL3.keeps.cell k1 (by simp),hL3.keeps.cell k2 (by simp),hL3.keeps.cell k3 (by simp)⟩ (fun hHeld=>?_);clear hK0 K0;(try simp only [sT,Act.put]);refine aH 16 (by kernel_rfl) rfl (fun K0 hK0=>?_);go_simp;have hKa:=(aa.refl [] w3).alloc (.cells #[.int .i64 0,.int .i64 0,.int .i64 0,.string ⟨#[]⟩,.int .u64 0,.slice none 0 0,.int .i64 0] 39);refine hK0.out _ _ ⟨hKa.cell (hL3.keeps.cell k1 (by simp)) (by simp),hKa.cell (hL3.keeps.cell k2 (by simp)) (by simp),hKa.cell (hL3.keeps.cell k3 (by simp)) (by simp)⟩ (fun hHeld=>?_);clear hK0 K0;(try simp only [sT,Act.put]);refine aH 17 (by kernel_rfl) rfl (fun K0 hK0=>?_);go_simp;have hKb:=(aa.refl [] w3).alloc (.cells #[.int .i64 vv.c,.int .i64 0,.int .i64 vv.r,.string (ak vv.p),.int .u64 vv.d,.slice none 0 0,.int .i64 0] 39);refine hK0.out _ _ ⟨hKb.cell (hL3.keeps.cell k1 (by simp)) (by simp),hKb.cell (hL3.keeps.cell k2 (by simp)) (by simp),hKb.cell (hL3.keeps.cell k3 (by simp)) (by simp)⟩ (fun hHeld=>?_);refine wpAnyH_done (by kernel_rfl) ?_ _;(go_wp2_with fail);go_meet
     exact ⟨w3.heap.size,rfl,heap_alloc_new w3 _,hL3.kept hKb⟩
    ·go_simp;have hKa:=(aa.refl [] wr.drew).alloc (.cells #[.int .i64 0,.int .i64 0,.int .i64 0,.string ⟨#[]⟩,.int .u64 0,.slice none 0 0,.int .i64 0] 39);refine hK0.out _ _ ⟨hKa.cell c1 (by simp),hKa.cell c2 (by simp),hKa.cell c3 (by simp)⟩ (fun hHeld=>?_);clear hK0 K0;(try simp only [sT,Act.put]);refine aH 15 (by kernel_rfl) rfl (fun K0 hK0=>?_);go_simp;refine (cL _ ((aa.refl [] _).alloc _).drew).mono ?_;rintro e w3 ⟨rfl,hL3,hO3⟩;(go_wp2_with fail);have hB3:=zu hO3;refine hK0.out _ _ ⟨hL3.keeps.cell k1 (by simp),hL3.keeps.cell k2 (by simp),hL3.keeps.cell k3 (by simp)⟩ (fun hHeld=>?_);clear hK0 K0;(try simp only [sT,Act.put]);refine aH 17 (by kernel_rfl) rfl (fun K0 hK0=>?_);have f0:=ai hB3.out 0;have f1:=ai hB3.out 1;have f2:=ai hB3.out 2;have f3:=ai hB3.out 3;have f4:=ai hB3.out 4;have f5:=ai hB3.out 5;have f6:=ai hB3.out 6;obtain ⟨m0,m1,m2,m3,m4,m5,m6⟩:=bL hB3.out;go_simp;have hKb:aa [wr.heap.size] w3 (eg w3 wr.heap.size (.int .i64 vv.c) (.int .i64 0) (.int .i64 vv.r) (.string (ak vv.p)) (.int .u64 vv.d) (.slice none 0 0) (.int .i64 0)):=aQ (aa.refl _ _) (.inl (by simp)) _ _ _ _ _ _ _;have hl1:W0.heap.size≤wr.heap.size:=HMr.out.keeps.size;have hL4:=AQ hL3 hB3.out hKb hl1;refine hK0.out _ _ ⟨hL4.keeps.cell k1 (by simp),hL4.keeps.cell k2 (by simp),hL4.keeps.cell k3 (by simp)⟩ (fun hHeld=>?_);refine wpAnyH_done (by kernel_rfl) ?_ _;(go_wp2_with fail);go_meet
     exact ⟨wr.heap.size,rfl,ff hB3.out _ _ _ _ _ _ _,hL4⟩
   case rest =>
    obtain ⟨Bk,rfl,hBk,HM3⟩:=hcut;clear cL c0 c1 c2 c3 k0 k1 k2 k3 hQr;obtain ⟨r0,r1,r2,r3,r4,r5,r6⟩:=bL hBk;have hQ3:=HM3.out.keeps.at HQ.out (by simp);have HK3:=iH (HK0.out.trans HM3.out.keeps (by simp));by_cases hv2:vv.c=2
    ·have he:dL G x.b x.n x.c=none:=(jR _ _ _ _).1 (by rw [← HVV.out];exact hv2);obtain ⟨hv,hg⟩:=bD he;have HGa:Hid (G2=da G (el G x.b x.n x.c)):=by rw [HG2.out];exact hg
     obtain ⟨a0,n0,p0,a1,n1,p1,a2,n2,p2,K5,hA5,_,hs5,_⟩:=HM3.out.parts;have hK5:K5.map Prod.fst=G.cs++[el G x.b x.n x.c]:=by rw [hA5.com,HGa.out];rfl
     have hgl:=HWf.out.2;have hi5:i < K5.length:=by have h:=congrArg List.length hK5;simp at h;omega
     have hx5:K5[i].1=el G x.b x.n x.c:=by
      have h1:(K5.map Prod.fst)[i]'(by simpa using hi5)=(G.cs++[el G x.b x.n x.c])[i]'(by simp;omega):=by simp only [hK5]
      rw [List.getElem_append_right (by omega)] at h1;simpa using h1
     obtain ⟨g5,o5,he5,hc5⟩:=hs5.2.2.2.1 i hi5;obtain ⟨mo5,mm5,mc5,hm5,hsl5,_⟩:=hs5.2.2.2.2 _ (List.getElem_mem hi5);subst he5;obtain ⟨q0,q1,q2,q3⟩:=hc5;rw [hm5] at q3;rw [hx5] at q0 q1 q2 hsl5;simp only [el] at q0 q1 q2 hsl5;rw [hgl] at q0;have hn5:=hs5.1;have hp5:=hs5.2.1;have hi5':(i:Int) < n0:=by omega
     have hi5c:i≤p0:=by omega
     obtain ⟨b0,b1,b2⟩:=bC hA5.at_;have c0:=HM3.out.keeps.cell E0.out (by simp);have c1:=HM3.out.keeps.cell E1.out (by simp);have c2:=HM3.out.keeps.cell E2.out (by simp);have c3:=HM3.out.keeps.cell E3.out (by simp);have cS:=fun W (hk:aa [] wc W)=>qM W ((i:Int)+1) x.r x.b x.n mo5 mo mm5 mm mc5 mc (an x.c) x.c (hsl5.kept hk (by simp)) ((HSl.out.kept HM3.out.keeps (by simp)).kept hk (by simp))
     have HStp:Hid (dO G x=if (i:Int)+1=x.r∧an x.c=x.c then some G2 else none):=by
      show _=_;unfold dO;have h2:(bi G x.b x.n x.c).c=2:=by rw [← HVV.out];exact hv2
      have h3:(bi G x.b x.n x.c).r=(i:Int)+1:=by rw [hv];simp only;rw [hgl]
      by_cases h4:(i:Int)+1=x.r∧an x.c=x.c
      ·rw [if_pos ⟨h2,by rw [h3];exact h4.1,h4.2⟩,if_pos h4,HG2.out]
      ·rw [if_neg (fun h5=>h4 ⟨by rw [← h3];exact h5.2.1,h5.2.2⟩),if_neg h4]
     rw [hv2] at r0;clear he hv hg hs5 hA5 hK5 hx5 hm5 hsl5 hn5 hp5 b1 b2 hBk r1 r2 r3 r4 r5 r6 hv2 hgl;by_cases hok:(i:Int)+1=x.r∧an x.c=x.c
     ·have hbb:(decide ((i:Int)+1=x.r) && decide (an x.c=x.c))=true:=by simp [hok.1,hok.2]
      have HNx:Hid (bQ ba (cs.take (i+1))=some G2):=by rw [HSt.out,HStp.out,if_pos hok];exact rfl
      rw [hbb] at cS;clear hok hbb hi5;go_wp2_with fail
      first | go_region_held3 (fun w'=>w'.cell? ⟨Bk,0,none⟩=some (.int .i64 2)∧w'.cell? ⟨w.heap.size+1,0,none⟩=some (.slice (some ⟨g5,o5,none⟩) n0 p0)∧(w'.cell? ⟨g5,o5+i*4,none⟩=some (.int .i64 ((i:Int)+1))∧w'.cell? ⟨g5,o5+i*4+1,none⟩=some (.int .i64 x.b)∧w'.cell? ⟨g5,o5+i*4+2,none⟩=some (.string (ak x.n))∧w'.cell? ⟨g5,o5+i*4+3,none⟩=some (.slice mo5 mm5 mc5))∧w'.cell? ⟨g,o+i*4,none⟩=some (.int .i64 x.r)∧w'.cell? ⟨g,o+i*4+1,none⟩=some (.int .i64 x.b)∧w'.cell? ⟨g,o+i*4+2,none⟩=some (.string (ak x.n))∧w'.cell? ⟨g,o+i*4+3,none⟩=some (.slice mo mm mc))
       (first | go_keep | exact ⟨hK6.cell r0 (by simp),hK6.cell b0 (by simp),⟨hK6.cell q0 (by simp),hK6.cell q1 (by simp),hK6.cell q2 (by simp),hK6.cell q3 (by simp)⟩,hK6.cell c0 (by simp),hK6.cell c1 (by simp),hK6.cell c2 (by simp),hK6.cell c3 (by simp)⟩)
       (first | (go_at_call 73;refine (cS _ ?_).mono ?_;exact (aa.refl [] _).drew;rintro e w6 ⟨rfl,hK6⟩;replace hK6:=(aa.refl [] wc).drew.trans hK6 (by simp))) | fail
      have HN:=iH (HM3.out.kept hK6);(go_wp2_with fail);go_roundw
      case rel=>exact ⟨i+1,G2,by go_num,by rw [HCl.out,← HNk.out];omega,HN,HNx⟩
      case measure=>(simp [intOf] <;> omega)
     ·have hbb:(decide ((i:Int)+1=x.r) && decide (an x.c=x.c))=false:=by
       by_cases h1:(i:Int)+1=x.r
       ·have h2:¬ an x.c=x.c:=fun h2=>hok ⟨h1,h2⟩;simp [h2]
       ·simp [h1]
      have HNone:Hid (bQ ba cs=none):=ol (i:=i+1) (by rw [HSt.out,HStp.out,if_neg hok]);rw [hbb] at cS;clear hok hbb hi5;go_wp2_with fail
      first | go_region_held3 (fun w'=>w'.cell? ⟨Bk,0,none⟩=some (.int .i64 2)∧w'.cell? ⟨w.heap.size+1,0,none⟩=some (.slice (some ⟨g5,o5,none⟩) n0 p0)∧(w'.cell? ⟨g5,o5+i*4,none⟩=some (.int .i64 ((i:Int)+1))∧w'.cell? ⟨g5,o5+i*4+1,none⟩=some (.int .i64 x.b)∧w'.cell? ⟨g5,o5+i*4+2,none⟩=some (.string (ak x.n))∧w'.cell? ⟨g5,o5+i*4+3,none⟩=some (.slice mo5 mm5 mc5))∧w'.cell? ⟨g,o+i*4,none⟩=some (.int .i64 x.r)∧w'.cell? ⟨g,o+i*4+1,none⟩=some (.int .i64 x.b)∧w'.cell? ⟨g,o+i*4+2,none⟩=some (.string (ak x.n))∧w'.cell? ⟨g,o+i*4+3,none⟩=some (.slice mo mm mc))
       (first | go_keep | exact ⟨hK6.cell r0 (by simp),hK6.cell b0 (by simp),⟨hK6.cell q0 (by simp),hK6.cell q1 (by simp),hK6.cell q2 (by simp),hK6.cell q3 (by simp)⟩,hK6.cell c0 (by simp),hK6.cell c1 (by simp),hK6.cell c2 (by simp),hK6.cell c3 (by simp)⟩)
       (first | (go_at_call 73;refine (cS _ ?_).mono ?_;exact (aa.refl [] _).drew;rintro e w6 ⟨rfl,hK6⟩;replace hK6:=(aa.refl [] wc).drew.trans hK6 (by simp))) | fail
      obtain ⟨z0,z1,z2⟩:=bC (hK6.at hQ3 (by simp));have f0:=aj (hK6.at hQ3 (by simp)) 0;have f1:=aj (hK6.at hQ3 (by simp)) 1;have f2:=aj (hK6.at hQ3 (by simp)) 2;have HKe:Hid (aa [] w (((w6.setCell ⟨w.heap.size,0,none⟩ (.slice none 0 0)).setCell ⟨w.heap.size,1,none⟩ (.slice none 0 0)).setCell ⟨w.heap.size,2,none⟩ (.slice none 0 0))):=(((HK3.out.trans hK6 (by simp)).setCell (.inr (Nat.le_refl _)) _).setCell (.inr (Nat.le_refl _)) _).setCell (.inr (Nat.le_refl _)) _;(go_wp2_with fail);refine bodyPost_ret (v:=.tuple #[.agg #[.slice none 0 0,.slice none 0 0,.slice none 0 0],.int .i64 4]) ?_ rfl ?_
      ·rw [results_cell_tmp rfl];go_simp
      ·rw [HNone.out];exact ⟨rfl,HKe.out⟩
    ·have hv2b:(vv.c != 2)=true:=by simpa using hv2
     have HNone:Hid (bQ ba cs=none):=ol (i:=i+1) (by
      rw [HSt.out];unfold dO;rw [if_neg (fun h=>hv2 (by rw [HVV.out];exact h.1))])
     clear hv2 hBk;(go_wp2_with fail);go_quiet (fail)
     obtain ⟨z0,z1,z2⟩:=bC ((aN wc nq).at hQ3 (by simp));have f0:=aj ((aN wc nq).at hQ3 (by simp)) 0;have f1:=aj ((aN wc nq).at hQ3 (by simp)) 1;have f2:=aj ((aN wc nq).at hQ3 (by simp)) 2;have HKe:Hid (aa [] w ((((wc.drewN nq).setCell ⟨w.heap.size,0,none⟩ (.slice none 0 0)).setCell ⟨w.heap.size,1,none⟩ (.slice none 0 0)).setCell ⟨w.heap.size,2,none⟩ (.slice none 0 0))):=(((HK3.out.trans (aN wc nq) (by simp)).setCell (.inr (Nat.le_refl _)) _).setCell (.inr (Nat.le_refl _)) _).setCell (.inr (Nat.le_refl _)) _;(go_wp2_with fail);refine bodyPost_ret (v:=.tuple #[.agg #[.slice none 0 0,.slice none 0 0,.slice none 0 0],.int .i64 4]) ?_ rfl ?_
     ·rw [results_cell_tmp rfl];go_simp
     ·rw [HNone.out];exact ⟨rfl,HKe.out⟩
  ·have hlt':¬ (i:Int) < nk:=by omega
   have HEnd:Hid (bQ ba cs=some G):=by have h:=HLd.out;rw [List.take_of_length_le (by rw [HCl.out,← HNk.out];omega)] at h;exact h
   obtain ⟨a0,n0,p0,a1,n1,p1,a2,n2,p2,K5,hA5,hn5,_,hv5⟩:=HMr.out.parts;obtain ⟨c0,c1,c2⟩:=bC hA5.at_;obtain ⟨z0,z1,z2⟩:=bC hQr;have f0:=aj hQr 0;have f1:=aj hQr 1;have f2:=aj hQr 2;have HFin:=iH (An hA5 hn5 hQr);have HKe:Hid (aa [] w (((wr.setCell ⟨w.heap.size,0,none⟩ (.slice a0 n0 p0)).setCell ⟨w.heap.size,1,none⟩ (.slice a1 n1 p1)).setCell ⟨w.heap.size,2,none⟩ (.slice a2 n2 p2))):=(((HK0.out.trans HMr.out.keeps (by simp)).setCell (.inr (Nat.le_refl _)) _).setCell (.inr (Nat.le_refl _)) _).setCell (.inr (Nat.le_refl _)) _;have HV5:Hid (∀ k,(Value.slice a0 n0 p0).ownBlock=some k→w.heap.size≤k):=fun k hk=>Nat.le_trans HK0.out.size (hv5 k hk);clear hA5 hn5 hQr hv5;(go_wp2_with fail);refine bodyPost_ret (v:=.tuple #[.agg #[.slice a0 n0 p0,.slice a1 n1 p1,.slice a2 n2 p2],.int .i64 0]) ?_ rfl ?_
   ·rw [results_cell_tmp rfl];go_simp
   ·rw [HEnd.out];exact ⟨_,_,_,_,_,_,_,_,_,rfl,HFin.out,HKe.out,HV5.out⟩
end Go.Proofs.YtgpnlidnbldiiaaGreat
