/-
  Texts of this claim that are laid as one: MiMo1, MiMo2, MiMo3.
-/
import Derived.Test.YtgpnlidnbldiiaaGreatM11r
import Derived.Handy
/-
 The document's graph inside a machine.
-/
namespace Go.Proofs.YtgpnlidnbldiiaaGreat
open Go.RowKit
variable {xm : Value × Value × Value}
theorem cells3I {w:World}{b:Nat}{x v0 v1 v2 y z:Value}{t:TypeId}(h:w.heap[b]?=some (.cells #[x,v0,v1,v2,y,z] t (0,0))) :
 w.cell? ⟨b,1,none⟩=some v0∧w.cell? ⟨b,2,none⟩=some v1∧w.cell? ⟨b,3,none⟩=some v2:=by
 simp [World.cell?,h]
structure MAI (w:World) (b:Nat) (xm:Value × Value × Value) (v vL vR:Value) (K:List (Com × Value)) (G:Gr):Prop where
 at_:w.heap[b]?=some (.cells #[xm.1,v,vL,vR,xm.2.1,xm.2.2] 84 (0,0))
 row:RowK 0 w v K
 own:OwnK 0 w K
 com:K.map Prod.fst=G.cs
 lvs:OwnL 0 w vL G.ls
 rfs:OwnM 0 w vR G.rs
def MAtI (w:World) (b:Nat) (xm:Value × Value × Value) (S:List Nat) (G:Gr):Prop:=∃ v vL vR K,MAI w b xm v vL vR K G∧NilV G.ls vL∧S=ownM b v
theorem MAI.typed {w:World}{b:Nat}{v vL vR:Value}{K:List (Com × Value)}{G:Gr}(h:MAI w b xm v vL vR K G):Typed w (ownM b v) [84,137]:=by
 intro k hk cur t' mk hh
 rcases List.mem_cons.1 hk with rfl | hk
 ·rw [h.at_] at hh;cases hh;simp
 ·obtain ⟨c2,h2⟩:=row_block h.row (mem_own.1 hk)
  rw [h2] at hh;cases hh;simp
theorem MAI.lt {w:World}{b:Nat}{v vL vR:Value}{K:List (Com × Value)}{G:Gr}(h:MAI w b xm v vL vR K G):∀ k∈ownM b v,k < w.heap.size:=by
 intro k hk
 rcases List.mem_cons.1 hk with rfl | hk
 ·exact lt_of_at h.at_
 ·obtain ⟨c2,h2⟩:=row_block h.row (mem_own.1 hk)
  exact lt_of_at h2
theorem MAI.keep {w w':World}{b:Nat}{v vL vR:Value}{K:List (Com × Value)}{G:Gr}(h:MAI w b xm v vL vR K G)
 {S:List Nat}{Ts:List TypeId}(k:Kept S w w') (hS:∀ i∈ownM b v,i ∉ S) (hT:Typed w S Ts) (h1:60 ∉ Ts) (h2:141 ∉ Ts) (h3:204 ∉ Ts):MAI w' b xm v vL vR K G :=
 ⟨k.at h.at_ (hS b (by simp [ownM])),k.ownsRow h.row (fun i hi=>hS i (by simp [ownM,hi])),fun x hx=>row_typed k hT (h.own x hx) h1,h.com,row_typed k hT h.lvs h2,row_typed k hT h.rfs h3⟩
theorem MAI.kept {w w':World}{b:Nat}{v vL vR:Value}{K:List (Com × Value)}{G:Gr}(h:MAI w b xm v vL vR K G) (k:Kept [] w w'):MAI w' b xm v vL vR K G :=
 h.keep k (by simp) (typed_nil w []) (by simp) (by simp) (by simp)
theorem MAI.setRefs {w:World}{b:Nat}{v vL vR vR':Value}{K:List (Com × Value)}{G:Gr}(h:MAI w b xm v vL vR K G) {rs:List (List UInt8 × Int)}(hR:OwnM 0 w vR' rs) :
 MAI (w.setCell ⟨b,3,none⟩ vR') b xm v vL vR' K ⟨G.cs,G.ls,rs⟩:=by
 have hK2:Kept [b] w (w.setCell ⟨b,3,none⟩ vR'):=(Kept.refl _ _).setCell (by simp) _
 have hT2:Typed w [b] [84]:=fun k hk cur t' mk hh=>by
  simp at hk;subst hk;rw [h.at_] at hh;cases hh;simp
 exact ⟨heap_setCell_same w b 3 _ _ _ h.at_,row_typed hK2 hT2 h.row (by decide),fun y hy=>row_typed hK2 hT2 (h.own y hy) (by decide),h.com,row_typed hK2 hT2 h.lvs (by decide),row_typed hK2 hT2 hR (by decide)⟩
theorem MAI.setLeaves {w:World}{b:Nat}{v vL vL' vR:Value}{K:List (Com × Value)}{G:Gr}(h:MAI w b xm v vL vR K G) {ls:List Lf}(hL:OwnL 0 w vL' ls) :
 MAI (w.setCell ⟨b,2,none⟩ vL') b xm v vL' vR K ⟨G.cs,ls,G.rs⟩:=by
 have hK2:Kept [b] w (w.setCell ⟨b,2,none⟩ vL'):=(Kept.refl _ _).setCell (by simp) _
 have hT2:Typed w [b] [84]:=fun k hk cur t' mk hh=>by
  simp at hk;subst hk;rw [h.at_] at hh;cases hh;simp
 exact ⟨heap_setCell_same w b 2 _ _ _ h.at_,row_typed hK2 hT2 h.row (by decide),fun y hy=>row_typed hK2 hT2 (h.own y hy) (by decide),h.com,row_typed hK2 hT2 hL (by decide),row_typed hK2 hT2 h.rfs (by decide)⟩
theorem MAI.setRow {w:World}{b:Nat}{v vL vR:Value}{K:List (Com × Value)}{G:Gr}(h:MAI w b xm v vL vR K G) {w':World}{x:Com}{cv:Value}(hO:OwnC 0 w cv x.c) {g cap:Nat}
 (hR:RowK 0 w' (.slice (some ⟨g,0,none⟩) (K.length+1) cap) (K++[(x,cv)])) (hg:w.grownBy w' v.ownBlock) (hat:v.ownBlock=some g∨g=w.heap.size) :
 MAI (w'.setCell ⟨b,1,none⟩ (.slice (some ⟨g,0,none⟩) (K.length+1) cap)) b xm (.slice (some ⟨g,0,none⟩) (K.length+1) cap) vL vR (K++[(x,cv)]) ⟨G.cs++[x],G.ls,G.rs⟩:=by
 have hT:Typed w v.ownBlock.toList [137]:=fun k hk cur t' mk hh=>by
  obtain ⟨c2,h2⟩:=row_block h.row (mem_own.1 hk)
  rw [h2] at hh;cases hh;simp
 have hK:Kept v.ownBlock.toList w w':=(Kept.refl _ w).grown hg fun k hk=>.inl (mem_own.2 hk)
 have hbv:b ∉ v.ownBlock.toList:=fun hm=>by have:=hT b hm _ _ _ h.at_;simp at this
 have hb':=hK.at h.at_ hbv
 have hblt:=lt_of_at h.at_
 have hgb:g≠b:=fun e=>by
  subst e
  rcases hat with hat | hat
  ·exact hbv (mem_own.2 hat)
  ·omega
 have hK2:Kept [b] w' (w'.setCell ⟨b,1,none⟩ (.slice (some ⟨g,0,none⟩) (K.length+1) cap)):=(Kept.refl _ _).setCell (by simp) _
 have hT2:Typed w' [b] [84]:=fun k hk cur t' mk hh=>by
  simp at hk;subst hk;rw [hb'] at hh;cases hh;simp
 refine ⟨heap_setCell_same w' b 1 _ _ _ hb',hK2.ownsRow hR (fun k hk=>by simp [Value.ownBlock] at hk;subst hk;simpa using hgb),?_,by simp [h.com],row_typed hK2 hT2 (row_typed hK hT h.lvs (by decide)) (by decide),row_typed hK2 hT2 (row_typed hK hT h.rfs (by decide)) (by decide)⟩
 intro y hy
 have hy2:OwnC 0 w y.2 y.1.c:=by
  rcases List.mem_append.1 hy with hy | hy
  ·exact h.own y hy
  ·simp at hy;subst hy;exact hO
 exact row_typed hK2 hT2 (row_typed hK hT hy2 (by decide)) (by decide)
end Go.Proofs.YtgpnlidnbldiiaaGreat
namespace Go.Proofs.YtgpnlidnbldiiaaGreat
open Go.RowKit
variable {xm : Value × Value × Value}
def MvEI (w:World) (b:Nat) (xm:Value × Value × Value) (v vL:Value) (K:List (Com × Value)) (G:Gr) (w':World):Prop:=∃ vR,MAI w' b xm v vL vR K G∧Kept [b] w w'
theorem mv_endI {w wr:World}{b:Nat}{v vL vR:Value}{K:List (Com × Value)}{G:Gr}(h:MAI w b xm v vL vR K G) {ov:Value}{rs:List (List UInt8 × Int)}(hK:Kept [] w wr) (hO:OwnM w.heap.size wr ov rs):Hid (MvEI w b xm v vL K ⟨G.cs,G.ls,rs⟩ (wr.setCell ⟨b,3,none⟩ ov)) :=
 ⟨ov,(h.kept hK).setRefs (OwnM.mono hO (Nat.zero_le _)),(hK.mono (by simp)).setCell (.inl (by simp)) _⟩
set_option maxHeartbeats 8000000 in
set_option maxRecDepth 100000 in
theorem move_callI {w:World}{b:Nat}{v vL vR:Value}{K:List (Com × Value)}{G:Gr}(h:MAI w b xm v vL vR K G) (n:List UInt8) (r:Int) (hs:SrR G.rs) (hl:G.rs.length≤1000000) :
 Calls Tryz.prog 144 #[.pointer (some ⟨b,1,none⟩),.string (str n),.int .i64 r] w fun e w'=>e=.returned (.tuple #[])∧MvEI w b xm v vL K ⟨G.cs,G.ls,mvR n r G.rs⟩ w':=by
 obtain ⟨ao,c,rfl,hc,hm,hat⟩:=h.rfs.at
 unfold maxLen at hm
 have HAt:Hid (∀ i (hi:i < G.rs.length),∃ g,ao=some ⟨g,0,none⟩∧w.cell? ⟨g,i*2,none⟩=some (.string (str G.rs[i].1))∧w.cell? ⟨g,i*2+1,none⟩=some (.int .i64 G.rs[i].2)):=hat
 have HM:Hid (MAI w b xm v vL (.slice ao G.rs.length c) K G):=h
 have HS:Hid (SrR G.rs):=hs
 obtain ⟨rn,hrn⟩:∃ rn:Nat,rn=G.rs.length:=⟨_,rfl⟩
 have HRn:Hid (rn=G.rs.length):=hrn
 rw [← hrn] at hc hl
 clear hat h hs hrn
 go_enter Tryz.func144,Tryz.ntmps144
 go_wp2_with fail
 go_loopw [6,7,8] (fun ov pv iv wr=>MvI w n r G.rs ov pv iv wr) (fun _ _ iv _=>rn - (intOf iv).toNat)
 case atStart=>exact ⟨0,[],false,rfl,rfl,Nat.zero_le _,.inl ⟨rfl,rfl⟩,Nat.zero_le _,World.ownsRow_nil _ _ _ _,Kept.refl _ _⟩
 case round =>
  obtain ⟨i,out,put,rfl,rfl,hi,HP,HL,HO,HK⟩:=hrel
  have hsz:=HK.out.size
  obtain ⟨c0,c1,c2⟩:=cells3I (HM.out.kept HK.out).at_
  rw [← HRn.out] at c2
  have HO2:=fun ob=>World.ownsRow.alloc HO.out ob
  have hlen:out.length≤1000000000:=by have:=HL.out;have:=HRn.out;omega
  have HKa:=fun ob=>HK.out.alloc ob
  by_cases hlt:i < rn
  ·have hlt':(i:Int) < rn:=by omega
   have hic:i≤c:=by omega
   have hir:i < G.rs.length:=by rw [← HRn.out];exact hlt
   obtain ⟨g,rfl,d0,d1⟩:=HAt.out i hir
   have e0:=HK.out.cell d0 (by simp)
   have e1:=HK.out.cell d1 (by simp)
   have E0:Hid (w.cell? ⟨g,i*2,none⟩=some (.string (str G.rs[i].1))):=d0
   have E1:Hid (w.cell? ⟨g,i*2+1,none⟩=some (.int .i64 G.rs[i].2)):=d1
   clear d0 d1
   obtain ⟨y,hy⟩:∃ y,y=G.rs[i]:=⟨_,rfl⟩
   rw [← hy] at e0 e1 E0 E1
   cases put with
   | false =>
     by_cases hlt1:y.1 < n
     ·have hb1:Op.bytesLess (str y.1).toList (str n).toList=true:=by rw [less_strM];simpa using hlt1
      have hb2:((str y.1).toList==(str n).toList)=false:=by rw [str_eqC];simp;intro e;rw [e] at hlt1;exact List.lt_irrefl _ hlt1
      have HN:Hid (MvP n r G.rs (i+1) false (out++[y])):=by rw [hy];exact mv_lt hir HP.out (by rw [← hy];exact hlt1)
      clear hlt1 hy
      go_wp2_with (at_builtin;refine wp_appM rfl _ _ rfl w.heap.size _ out rfl (HO2 _) wr.heap.size y rfl (heap_alloc_new _ _) hlen (by simp;omega) ?a1)
      case a1 =>
       intro v2 w2 hO2 hg2
       have HF:Hid (MvI w n r G.rs v2 (.bool false) (.int .i64 ((i+1:Nat):Int)) w2):=⟨i+1,_,false,rfl,rfl,by omega,HN,(by have:=HL.out;show _≤_;simp;omega),hO2,(HKa (.cells #[.string (str y.1),.int .i64 y.2] 204)).grown hg2 (fun k hk=>.inr (World.ownsRow.lt (HO2 (.cells #[.string (str y.1),.int .i64 y.2] 204)) k hk).1)⟩
       clear hO2 hg2
       go_wp2_with fail
       go_roundw
       case rel=>exact HF.out
       case measure=>simp [intOf];omega
     ·have hb1:Op.bytesLess (str y.1).toList (str n).toList=false:=by rw [less_strM];simpa using hlt1
      by_cases he:y.1=n
      ·have hb2:((str y.1).toList==(str n).toList)=true:=by rw [str_eqC];simpa using he
       have HN:Hid (MvP n r G.rs (i+1) true (out++[(n,r)])):=mv_eq HS.out hir HP.out (by rw [← hy];exact he)
       clear hlt1 hy he
       go_wp2_with (at_builtin;refine wp_appM rfl _ _ rfl w.heap.size _ out rfl (HO2 _) wr.heap.size (n,r) rfl (heap_alloc_new _ _) hlen (by simp;omega) ?a2)
       case a2 =>
        intro v2 w2 hO2 hg2
        have hK2:=(HKa (.cells #[.string (str n),.int .i64 r] 204)).grown hg2 (fun k hk=>.inr (World.ownsRow.lt (HO2 (.cells #[.string (str n),.int .i64 r] 204)) k hk).1)
        obtain ⟨m0,m1,m2⟩:=cells3I (HM.out.kept hK2).at_
        rw [← HRn.out] at m2
        have k0:=hK2.cell E0.out (by simp)
        have k1:=hK2.cell E1.out (by simp)
        have HF:Hid (MvI w n r G.rs v2 (.bool true) (.int .i64 ((i+1:Nat):Int)) w2):=⟨i+1,_,true,rfl,rfl,by omega,HN,(by have:=HL.out;show _≤_;simp;omega),hO2,hK2⟩
        clear hO2 hg2 hK2
        go_wp2_with fail
        go_roundw
        case rel=>exact HF.out
        case measure=>simp [intOf];omega
      ·have hb2:((str y.1).toList==(str n).toList)=false:=by rw [str_eqC];simpa using he
       have HN:Hid (MvP n r G.rs (i+1) true (out++[(n,r)]++[y])):=by rw [hy];exact mv_gt HS.out hir HP.out (by rw [← hy];exact hlt1) (by rw [← hy];exact he)
       clear hlt1 hy he
       go_wp2_with (at_builtin;refine wp_appM rfl _ _ rfl w.heap.size _ out rfl (HO2 _) wr.heap.size (n,r) rfl (heap_alloc_new _ _) hlen (by simp;omega) ?a3)
       case a3 =>
        intro v2 w2 hO2 hg2
        have hK2:=(HKa (.cells #[.string (str n),.int .i64 r] 204)).grown hg2 (fun k hk=>.inr (World.ownsRow.lt (HO2 (.cells #[.string (str n),.int .i64 r] 204)) k hk).1)
        obtain ⟨m0,m1,m2⟩:=cells3I (HM.out.kept hK2).at_
        rw [← HRn.out] at m2
        have k0:=hK2.cell E0.out (by simp)
        have k1:=hK2.cell E1.out (by simp)
        have HK2:Hid (Kept [] w w2):=hK2
        have HO3:=fun ob=>World.ownsRow.alloc hO2 ob
        have hlen3:(out++[(n,r)]).length≤1000000000:=by have:=HL.out;have:=HRn.out;simp;omega
        have hsz2:=hK2.size
        clear hg2 hK2 HO2 HKa
        go_wp2_with (at_builtin;refine wp_appM rfl _ _ rfl w.heap.size _ (out++[(n,r)]) rfl (HO3 _) w2.heap.size y rfl (heap_alloc_new _ _) hlen3 (by simp;omega) ?a4)
        case a4 =>
         intro v3 w3 hO4 hg4
         have HF:Hid (MvI w n r G.rs v3 (.bool true) (.int .i64 ((i+1:Nat):Int)) w3):=⟨i+1,_,true,rfl,rfl,by omega,HN,(by have:=HL.out;show _≤_;simp;omega),(by show OwnM _ _ _ _;rw [List.append_assoc];exact hO4),(HK2.out.alloc (.cells #[.string (str y.1),.int .i64 y.2] 204)).grown hg4 (fun k hk=>.inr (World.ownsRow.lt (HO3 (.cells #[.string (str y.1),.int .i64 y.2] 204)) k hk).1)⟩
         clear hO4 hg4 HO3
         go_wp2_with fail
         go_roundw
         case rel=>exact HF.out
         case measure=>simp [intOf];omega
   | true =>
     by_cases he:y.1=n
     ·have hb2:((str y.1).toList==(str n).toList)=true:=by rw [str_eqC];simpa using he
      have HN:Hid (MvP n r G.rs (i+1) true out):=mv_no hir HP.out (by rw [← hy];exact he)
      have HF:Hid (MvI w n r G.rs u6 (.bool true) (.int .i64 ((i+1:Nat):Int)) wr):=⟨i+1,_,true,rfl,rfl,by omega,HN,(by have:=HL.out;show _≤_;omega),HO,HK⟩
      clear hy he
      go_wp2_with fail
      go_roundw
      case rel=>exact HF.out
      case measure=>simp [intOf];omega
     ·have hb2:((str y.1).toList==(str n).toList)=false:=by rw [str_eqC];simpa using he
      have HN:Hid (MvP n r G.rs (i+1) true (out++[y])):=by rw [hy];exact mv_on hir HP.out (by rw [← hy];exact he)
      clear hy he
      go_wp2_with (at_builtin;refine wp_appM rfl _ _ rfl w.heap.size _ out rfl (HO2 _) wr.heap.size y rfl (heap_alloc_new _ _) hlen (by simp;omega) ?a5)
      case a5 =>
       intro v2 w2 hO2 hg2
       have HF:Hid (MvI w n r G.rs v2 (.bool true) (.int .i64 ((i+1:Nat):Int)) w2):=⟨i+1,_,true,rfl,rfl,by omega,HN,(by have:=HL.out;show _≤_;simp;omega),hO2,(HKa (.cells #[.string (str y.1),.int .i64 y.2] 204)).grown hg2 (fun k hk=>.inr (World.ownsRow.lt (HO2 (.cells #[.string (str y.1),.int .i64 y.2] 204)) k hk).1)⟩
       clear hO2 hg2
       go_wp2_with fail
       go_roundw
       case rel=>exact HF.out
       case measure=>simp [intOf];omega
  ·have hlt':¬ (i:Int) < rn:=by omega
   have hdr:G.rs.drop i=[]:=List.drop_eq_nil_of_le (by rw [← HRn.out];omega)
   cases put with
   | true =>
     have HE:Hid (out=mvR n r G.rs):=by
      have:=HP.out
      rcases this with ⟨h,_⟩ | ⟨_,h⟩
      ·cases h
      ·rw [hdr] at h;show _=_;simpa using h
     obtain ⟨ao6,c6,he6,_⟩:=HO.out.at
     have HF:=mv_endI HM.out HK.out HO.out
     rw [HE.out] at HF
     have f2:=froz3 (HM.out.kept HK.out).at_ 3
     subst he6
     clear HO2 HKa hdr
     go_wp2_with fail
     go_returns
     exact ⟨rfl,HF.out⟩
   | false =>
     have HE:Hid (out++[(n,r)]=mvR n r G.rs):=by
      have:=HP.out
      rcases this with ⟨_,h⟩ | ⟨h,_⟩
      ·rw [hdr] at h;exact h
      ·cases h
     clear hdr
     go_wp2_with (at_builtin;refine wp_appM rfl _ _ rfl w.heap.size _ out rfl (HO2 _) wr.heap.size (n,r) rfl (heap_alloc_new _ _) hlen (by simp;omega) ?a6)
     case a6 =>
      intro v2 w2 hO2 hg2
      have hK2:=(HKa (.cells #[.string (str n),.int .i64 r] 204)).grown hg2 (fun k hk=>.inr (World.ownsRow.lt (HO2 (.cells #[.string (str n),.int .i64 r] 204)) k hk).1)
      obtain ⟨m0,m1,m2⟩:=cells3I (HM.out.kept hK2).at_
      have f2:=froz3 (HM.out.kept hK2).at_ 3
      have HF:=mv_endI HM.out hK2 hO2
      rw [HE.out] at HF
      obtain ⟨ao6,c6,he6,_⟩:=OwnM.at hO2
      obtain ⟨n6,hn6⟩:∃ n6,n6=(out++[(n,r)]).length:=⟨_,rfl⟩
      rw [← hn6] at he6
      subst he6
      clear hn6
      clear hO2 hg2 hK2 HO2 HKa
      go_wp2_with fail
      go_returns
      exact ⟨rfl,HF.out⟩
end Go.Proofs.YtgpnlidnbldiiaaGreat
namespace Go.Proofs.YtgpnlidnbldiiaaGreat
open Go.RowKit
variable {xm : Value × Value × Value}
def MLandI (w:World) (b:Nat) (xm:Value × Value × Value) (S:List Nat) (G:Gr) (w':World):Prop:=∃ S',MAtI w' b xm S' G∧Kept S w w'∧∀ k∈S',k∈S∨w.heap.size≤k
theorem mland_endI {w w2 w3:World}{b:Nat}{v vL vR:Value}{K:List (Com × Value)}{G:Gr}{vs:Array Value}(h:MAI w2 b xm v vL vR K G) (hnl:NilV G.ls vL) {S:List Nat}(hS:∀ k∈S,k < w.heap.size) (hv:∀ k∈ownM b v,k∈S∨w.heap.size < k)
 (hB:w2.heap[w.heap.size]?=some (.cells vs 39 (0,0))) (hK2:Kept S w w2) (hK3:Kept [w.heap.size] w2 w3):MLandI w b xm S G w3:=by
 have hT:Typed w2 [w.heap.size] [39]:=fun k hk cur t' mk hh=>by
  simp at hk;subst hk;rw [hB] at hh;cases hh;simp
 refine ⟨ownM b v,⟨v,vL,vR,K,h.keep hK3 (fun i hi hm=>?_) hT (by decide) (by decide) (by decide),hnl,rfl⟩,hK2.trans hK3 (by simp),fun k hk=>?_⟩
 ·simp at hm;subst hm
  rcases hv _ hi with h1 | h1
  ·have:=hS _ h1;omega
  ·omega
 ·rcases hv k hk with h1 | h1
  ·exact .inl h1
  ·exact .inr (by omega)
theorem MAI.grown {w:World}{b:Nat}{v vL vR:Value}{K:List (Com × Value)}{G:Gr}(h:MAI w b xm v vL vR K G) {w':World}(hg:w.grownBy w' v.ownBlock):w'.heap[b]?=some (.cells #[xm.1,v,vL,vR,xm.2.1,xm.2.2] 84 (0,0)):=by
 refine ((Kept.refl v.ownBlock.toList w).grown hg fun k hk=>.inl (mem_own.2 hk)).at h.at_ fun hm=>?_
 obtain ⟨c2,h2⟩:=row_block h.row (mem_own.1 hm)
 rw [h.at_] at h2;cases h2
theorem madd_firstI {w wr w2:World}{b:Nat}{v:Value}{o ob:Obj}{g n cap:Nat}(hS:∀ k∈ownM b v,k < w.heap.size) (hK:Kept [] w wr) (hB:wr.heap[w.heap.size]?=some o) (hg:(wr.alloc ob).grownBy w2 v.ownBlock) (hat:v.ownBlock=some g∨g=(wr.alloc ob).heap.size) :
 Kept (ownM b v) w (w2.setCell ⟨b,1,none⟩ (.slice (some ⟨g,0,none⟩) n cap))∧(∀ k∈ownM b (.slice (some ⟨g,0,none⟩) n cap),k∈ownM b v∨w.heap.size < k) ∧
  (w2.setCell ⟨b,1,none⟩ (.slice (some ⟨g,0,none⟩) n cap)).heap[w.heap.size]?=some o:=by
 have hlt:=lt_of_heap hB
 refine ⟨(((hK.mono (by simp)).alloc _).grown hg (fun k hk=>.inl (by simp [ownM,hk]))).setCell (.inl (by simp [ownM])) _,fun k hk=>?_,?_⟩
 ·rcases List.mem_cons.1 hk with rfl | hk
  ·exact .inl (by simp [ownM])
  ·simp [Value.ownBlock] at hk
   subst hk
   rcases hat with h | h
   ·exact .inl (by simp [ownM,h])
   ·refine .inr ?_
    rw [h,World.size_alloc];omega
 ·have hb:=hS b (by simp [ownM])
  have h1:(wr.alloc ob).heap[w.heap.size]?=some o:=(Below.heap_alloc _ _ _ hlt).trans hB
  have h2:w2.heap[w.heap.size]?=some o:=((Kept.refl v.ownBlock.toList _).grown hg fun k hk=>.inl (mem_own.2 hk)).at h1 fun hm=>by
   have:=hS w.heap.size (by simp [ownM,mem_own.1 hm])
   omega
  exact (show Kept [b] w2 _ from (Kept.refl _ _).setCell (by simp) _).at h2 (by simp;omega)
def MLII (w:World) (b:Nat) (xm:Value × Value × Value) (S:List Nat) (v vR:Value) (K:List (Com × Value)) (cs:List Com) (ls:List Lf) (rs:List (List UInt8 × Int)) (r:Int) (L:List Ch) (vs:Array Value) (iv:Value) (wr:World):Prop :=
 ∃ (i:Nat) (vL:Value),iv=.int .i64 (i:Int)∧i≤L.length∧Hid (MAI wr b xm v vL vR K ⟨cs,putC r ls (L.take i),rs⟩)∧Hid (NilV (putC r ls (L.take i)) vL)∧Hid (Kept S w wr)∧Hid (wr.heap[w.heap.size]?=some (.cells vs 39 (0,0)))
end Go.Proofs.YtgpnlidnbldiiaaGreat
