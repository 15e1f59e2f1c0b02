/-
  Texts of this claim that are laid as one: GrRead, GrCopy, GrAwake.
-/
import Derived.Test.YtddhmfildfdbdaaGreatQ10r
import Derived.Laws.OwnMore
set_option maxHeartbeats 4000000
/-
 Read.
-/
namespace Go.Proofs.YtddhmfildfdbdaaGreat
open Go.RowKit
theorem cloneK_call (w:World) (ao:Option Addr) (n c:Nat) (K:List (Com × Value)) (hS:SlK w ao n c K) (hnil:ao=none→c=0) (hn:n≤100000000) :
 Calls Tryz.prog 135 #[.slice ao n c] w fun e w'=>∃ v,e=.returned v∧RowK w.heap.size w' v K∧Kept [] w w':=by
 have hl:=hS.1
 have hc:=hS.2.1
 have hm:=hS.2.2.1
 unfold maxLen at hm
 have q0:∀ (w:World) (a:Option Addr) (n c:Nat),(binOp .eql 67 (.slice a n c) (.slice none 0 0)).run Tryz.prog w=.ok (.bool a.isNone) w:=fun w a n c=>Lib.run_eql_slice_nil w _ _ a n c 0 0 Tryz.underlying67
 cases ao with
 | none =>
   obtain rfl:=hnil rfl
   obtain rfl:n=0:=by omega
   obtain rfl:K=[]:=by simpa using hl
   clear hS
   go_enter Tryz.func135,Tryz.ntmps135
   go_wp2_with fail
   go_ret
   exact ⟨_,rfl,RowK.nil _ _,Kept.refl _ _⟩
 | some ad =>
   have hA:=(Kept.refl [] w).alloc (.cells #[] 76)
   have hO0:=own_voidK w w.heap.size (Nat.le_refl _)
   have HS:Hid (SlK (w.alloc (.cells #[] 76)) (some ad) n c K):=hS.kept hA
   have HL:Hid (K.length=n):=hl
   clear hS hl
   go_enter Tryz.func135,Tryz.ntmps135
   go_wp2_with (at_builtin;refine wp_appK rfl _ _ rfl w.heap.size _ [] rfl hO0 ad n c K rfl HL.out.symm HS.out.runs HS.out.ones (by rw [HL.out];simp;omega) (by simp) ?_)
   intro v' w' hO hg
   have hK:Kept [] w w':=hA.grown hg fun k hk=>.inr (World.ownsRow.lt hO0 k hk).1
   clear hg hO0
   go_wp2_with fail
   go_ret
   exact ⟨v',rfl,hO,hK⟩
def CopP (w:World) (L:List Com) (e:Ending) (w':World):Prop :=
 ∃ v K',e=.returned v∧K'.map Prod.fst=L∧RowK w.heap.size w' v K'∧OwnK w.heap.size w' K'∧Kept [] w w'
def CopI (w:World) (K:List (Com × Value)) (g cap:Nat) (iv:Value) (wr:World):Prop :=
 ∃ (i:Nat) (K':List (Com × Value)),iv=.int .i64 (i:Int)∧i≤K.length∧Hid (K'.map Prod.fst=K.map Prod.fst)∧Hid (RowK w.heap.size wr (.slice (some ⟨g,0,none⟩) K.length cap) K') ∧
  Hid (∀ j (h:j < K'.length),j < i→OwnC w.heap.size wr K'[j].2 K'[j].1.c)∧Hid (∀ j (h:j < K'.length) (h2:j < K.length),i≤j→K'[j]=K[j])∧Hid (Kept [] w wr)
theorem cop_next {w wr w3:World}{K K':List (Com × Value)}{g cap i:Nat}{v2:Value}(hi:i < K.length) (h1:K'.map Prod.fst=K.map Prod.fst) (h2:RowK w.heap.size wr (.slice (some ⟨g,0,none⟩) K.length cap) K')
 (h3:∀ j (h:j < K'.length),j < i→OwnC w.heap.size wr K'[j].2 K'[j].1.c) (h4:∀ j (h:j < K'.length) (h2:j < K.length),i≤j→K'[j]=K[j]) (h5:Kept [] w wr) (hK:Kept [] wr w3) (hO:OwnC wr.heap.size w3 v2 K[i].1.c) :
 CopI w K g cap (.int .i64 ((i+1:Nat):Int)) (w3.setCell ⟨g,i*4+3,none⟩ v2):=by
 have hl:K'.length=K.length:=by have:=congrArg List.length h1;simpa using this
 have hi':i < K'.length:=by omega
 have e0:K'[i]=K[i]:=h4 i hi' hi (Nat.le_refl _)
 have hR3:RowK w.heap.size w3 (.slice (some ⟨g,0,none⟩) K.length cap) K':=hK.ownsRow h2 (by simp)
 have hK2:Kept [g] w3 (w3.setCell ⟨g,i*4+3,none⟩ v2):=(Kept.refl _ _).setCell (by simp) _
 have hT:Typed w3 [g] [76]:=fun k hk cur t mk hh=>by
  simp at hk;subst hk
  obtain ⟨c2,h⟩:=row_block hR3 (k:=k) rfl
  rw [h] at hh;cases hh;simp
 refine ⟨i+1,K'.set i (K'[i].1,v2),rfl,by omega,?_,hR3.set hi' v2,?_,?_,?_⟩
 ·show (K'.set i (K'[i].1,v2)).map Prod.fst=K.map Prod.fst
  rw [List.map_set,← h1]
  refine List.ext_getElem (by simp) fun j hj hj2=>?_
  by_cases e:i=j
  ·subst e;simp
  ·simp [List.getElem_set_ne e]
 ·intro j hj hlt
  simp only [List.length_set] at hj
  by_cases e:i=j
  ·subst e
   simp only [List.getElem_set_self]
   rw [e0]
   exact row_typed hK2 hT (hO.mono h5.size) (by decide)
  ·simp only [List.getElem_set_ne e]
   exact row_typed hK2 hT (hK.ownsRow (h3 j hj (by omega)) (by simp)) (by decide)
 ·intro j hj hj2 hle
  rw [List.getElem_set_ne (by omega)]
  exact h4 j (by simpa using hj) hj2 (by omega)
 ·refine (h5.trans hK (by simp)).trans hK2 (fun k hk=>.inr ?_)
  simp at hk;subst hk
  exact (World.ownsRow.lt h2 k rfl).1
set_option maxRecDepth 100000 in
theorem copies_call (w:World) (ao:Option Addr) (n c:Nat) (K:List (Com × Value)) (hS:SlK w ao n c K) (hnil:ao=none→c=0) (hn:n≤1000000) (hcl:∀ x∈K,x.1.c.length≤1000000) :
 Calls Tryz.prog 99 #[.slice ao n c] w fun e w'=>CopP w (K.map Prod.fst) e w':=by
 have cC:=cloneK_call w ao n c K hS hnil (by omega)
 have hl:=hS.1
 subst hl
 have HS:Hid (SlK w ao K.length c K):=hS
 have HC:Hid (∀ x∈K,x.1.c.length≤1000000):=hcl
 clear hS hcl
 go_enter Tryz.func99,Tryz.ntmps99
 go_wp2_with fail
 refine cC.mono ?_
 rintro _ w1 ⟨v,rfl,hR,hK1⟩
 obtain ⟨ao',cap,rfl,hcap,hcm⟩:∃ ao cap,v=.slice ao K.length cap∧K.length≤cap∧cap≤maxLen:=by
  obtain ⟨_,h2⟩:=hR
  rcases h2 with ⟨h3,h4⟩ | ⟨g,cap,cur,h3,_,_,h4,h5,_⟩
  ·exact ⟨none,0,by rw [h3,h4],by omega,Nat.zero_le _⟩
  ·exact ⟨_,cap,h3,h4,h5⟩
 unfold maxLen at hcm
 have HR:Hid (RowK w.heap.size w1 (.slice ao' K.length cap) K):=hR
 have HK1:Hid (Kept [] w w1):=hK1
 clear hR hK1 cC
 by_cases h0:K.length=0
 ·have hK0:K=[]:=by simpa using h0
  subst hK0
  have hz:(([]:List (Com × Value)).length:Int)=0:=rfl
  replace HR:Hid (RowK w.heap.size w1 (.slice ao' 0 cap) []):=HR
  clear h0
  go_wp2_with fail
  go_loopw [9] (fun iv wr=>iv=.int .i64 0∧w1=wr) (fun _ _=>1)
  case atStart=>exact ⟨rfl,rfl⟩
  case round =>
   obtain ⟨rfl,rfl⟩:=hrel
   go_wp2_with fail
   go_ret
   exact ⟨_,[],rfl,rfl,HR.out,by intro x hx;simp at hx,HK1.out⟩
 ·obtain ⟨g,cap',he,_,_⟩:=World.ownsRow.form HR.out (by omega)
  obtain ⟨rfl,rfl⟩:ao'=some ⟨g,0,none⟩∧cap=cap':=by simpa using he
  clear he
  go_wp2_with fail
  go_loopw [9] (fun iv wr=>CopI w K g cap iv wr) (fun iv _=>K.length - (intOf iv).toNat)
  case atStart=>exact ⟨0,K,rfl,Nat.zero_le _,rfl,HR,fun j h h2=>by omega,fun j h h2 h3=>rfl,HK1⟩
  case round =>
   obtain ⟨i,K',rfl,hi,H1,H2,H3,H4,H5⟩:=hrel
   by_cases hlt:i < K.length
   ·have hlt':(i:Int) < K.length:=by omega
    have hic:i≤cap:=by omega
    have hl:K'.length=K.length:=by have:=congrArg List.length H1.out;simpa using this
    have HR2:Hid (wr.ownsRow w.heap.size 76 4 (.slice (some ⟨g,0,none⟩) K.length cap) K.length (K'.flatMap coC)):=by have:=H2.out;unfold RowK at this;rw [hl] at this;exact this
    have d0:=World.ownsRow.cellAt HR2.out (i*4+3) (by omega)
    rw [coC_get K' i (by omega) 3 (by omega),show (coC K'[i])[3]?=some K[i].2 from by rw [H4.out i (by omega) hlt (Nat.le_refl _)];rfl] at d0
    have f0:=World.ownsRow.frozenAt HR2.out (i*4+3)
    obtain ⟨mo,m,mc,hmv,hms,hmn⟩:=HS.out.2.2.2.2 K[i] (List.getElem_mem hlt)
    rw [hmv] at d0
    have hml:=hms.1
    have hmc:=HC.out K[i] (List.getElem_mem hlt)
    have cD:=cloneC_call wr mo m mc K[i].1.c (hms.kept H5.out (by simp)) hmn (by omega)
    have HN:Hid (∀ w3 v2,Kept [] wr w3→OwnC wr.heap.size w3 v2 K[i].1.c→CopI w K g cap (.int .i64 ((i+1:Nat):Int)) (w3.setCell ⟨g,i*4+3,none⟩ v2)):=fun w3 v2 h1 h2=>cop_next hlt H1.out H2.out H3.out H4.out H5.out h1 h2
    clear hmv hms hmn hml hmc
    go_wp2_with fail
    refine cD.mono ?_
    rintro _ w3 ⟨v2,rfl,hO2,hK2⟩
    obtain ⟨a2,n2,c2,rfl,_,_⟩:=hO2.chV
    have d3:=hK2.cell d0 (by simp)
    have f3:=World.ownsRow.frozenAt (hK2.ownsRow HR2.out (by simp)) (i*4+3)
    have HF:=Hid.out (HN.out w3 _ hK2 hO2:Hid (CopI w K g cap (.int .i64 ((i+1:Nat):Int)) (w3.setCell ⟨g,i*4+3,none⟩ (.slice a2 n2 c2))))
    have HF2:Hid (CopI w K g cap (.int .i64 ((i+1:Nat):Int)) (w3.setCell ⟨g,i*4+3,none⟩ (.slice a2 n2 c2))):=HF
    clear HF hO2 cD
    go_wp2_with fail
    go_roundw
    case rel=>exact HF2.out
    case measure=>simp [intOf];omega
   ·have hlt':¬ (i:Int) < K.length:=by omega
    go_wp2_with fail
    go_ret
    have hl:K'.length=K.length:=by have:=congrArg List.length H1.out;simpa using this
    refine ⟨_,K',rfl,H1.out,by unfold RowK;rw [hl];have:=H2.out;unfold RowK at this;rw [hl] at this;exact this,fun x hx=>?_,H5.out⟩
    obtain ⟨j,hj,rfl⟩:=List.getElem_of_mem hx
    exact H3.out j hj (by omega)
set_option maxRecDepth 100000 in
theorem commits_call {w:World}{b:Nat}{v:Value}{p:Option Addr}{t:Tr}{mb:Nat}{K:List (Com × Value)}{G:Gr}(h:GA w b v p t mb K G) (hW:Wf G) (hl:G.cs.length≤10000) :
 Calls Tryz.prog 70 #[.pointer (some ⟨b,0,none⟩)] w fun e w'=>CopP w G.cs e w':=by
 obtain ⟨ao,c,hv,hs,hnil⟩:=h.row.sl h.own
 have cC:=chain_call h
 have hkl:K.length=G.cs.length:=by rw [← h.com];simp
 have cK:=copies_call w ao K.length c K hs hnil (by omega) (fun x hx=>by
  have h1:=hW.com x.1 (by rw [← h.com];exact List.mem_map_of_mem hx)
  have:=h1.1.2.1;omega)
 rw [h.com] at cK
 rw [hv] at cC
 clear h hs hv hnil hkl hl hW
 generalize K.length=n at *
 go_enter Tryz.func70,Tryz.ntmps70
 go_wp2_with fail
 refine cC.mono ?_
 rintro _ W ⟨rfl,hW0⟩
 obtain rfl:=hW0.symm
 go_wp2_with fail
 refine cK.mono ?_
 rintro e w1 ⟨v1,K1,rfl,h1,h2,h3,h4⟩
 go_wp2_with fail
 go_ret
 exact ⟨v1,K1,rfl,h1,h2,h3,h4⟩
theorem gland_call {w:World}{b:Nat}{S:List Nat}{G:Gr}(h:GAt w b S G) (hW:Wf G) (hl:G.cs.length≤10000)
 (base:Int) (n:List UInt8) (hn:n.length≤1000000) (ao:Option Addr) (m c:Nat) (L:List Ch) (hS:SlC w ao m c L) (hnil:ao=none→c=0) (hm:m≤1000000) (hp:∀ x∈L,x.p.length≤1000000000) :
 Calls Tryz.prog 120 #[.pointer (some ⟨b,0,none⟩),.int .i64 base,.string (str n),.slice ao m c] w fun e w'=>e=.returned (vdV (landV G base n L))∧LandP w b S (landG G base n L) w':=by
 obtain ⟨v,p,t,mb,K,hG,rfl⟩:=h
 exact land_call hG hW hl base n hn ao m c L hS hnil hm hp
def Live (w0 w:World) (b:Nat) (G:Gr):Prop:=∃ S,GAt w b S G∧Kept [] w0 w∧∀ k∈S,w0.heap.size≤k
theorem Live.kept {w0 w w':World}{b:Nat}{G:Gr}(h:Live w0 w b G) (k:Kept [] w w'):Live w0 w' b G:=by
 obtain ⟨S,h1,h2,h3⟩:=h
 exact ⟨S,h1.kept k,h2.trans k (by simp),h3⟩
theorem Live.keeps {w0 w:World}{b:Nat}{G:Gr}(h:Live w0 w b G):Kept [] w0 w:=by
 obtain ⟨S,h1,h2,h3⟩:=h;exact h2
theorem live_new (w:World):Calls Tryz.prog 22 #[] w fun e w'=>∃ b,e=.returned (.pointer (some ⟨b,0,none⟩))∧Live w w' b voidG :=
 (gnew_call w).mono fun _ _ ⟨b,S,h1,h2,h3,h4⟩=>⟨b,h1,S,h2,h3,h4⟩
end Go.Proofs.YtddhmfildfdbdaaGreat
