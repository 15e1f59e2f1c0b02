/-
  The program's disk: Crash. (Written by mk/mkfpcrs.py.)
-/
import Derived.Test.YteiagkjhmhllnaaRegG
import Derived.Test.YteiagkjhmhllnaaFpNew
import Derived.Test.YteiagkjhmhllnaaFdCrs
namespace Go.Proofs.Yteiagkjhmhllnaa
open Go.RowKit
theorem insG_last {α:Type}(nm:α→List UInt8) {X:List α}{y:α}(h:∀ x∈X,nm x < nm y):insG nm y (delG nm (nm y) X)=X++[y]:=by
 rw [delG_no nm (fun x hx e=>by have:=h x hx;rw [e] at this;exact List.lt_irrefl _ this)]
 induction X with
 | nil=>rfl
 | cons x X ih =>
   unfold insG
   rw [ltN_eq]
   simp only [h x (by simp),decide_true,if_true]
   rw [ih fun z hz=>h z (by simp [hz])];rfl
theorem crsL_names (L:List Fl) (K:List Int):(crsL L K).map Fl.n=L.map Fl.n:=by
 induction L generalizing K with
 | nil=>cases K <;> rfl
 | cons x L ih=>cases K with
   | nil=>simp [crsL,ih]
   | cons k K=>simp [crsL,ih]
theorem keptN_get (x:Fl) (o:Option Int):keptN x o=keptF x (o.getD 0):=by
 cases o with
 | none=>unfold keptN keptF;simp
 | some k=>rfl
theorem take_lt {L:List Fl}(h:RisG Fl.n L) {i:Nat}(hi:i < L.length):∀ x∈L.take i,x.n < L[i].n:=fun x hx=>by
 obtain ⟨j,hj,rfl⟩:=List.getElem_of_mem hx
 rw [List.length_take] at hj
 rw [List.getElem_take]
 unfold RisG at h
 rw [List.pairwise_iff_getElem] at h
 exact h j i (by omega) hi (by omega)
theorem crs_in {L:List Fl}(h:RisG Fl.n L) {i:Nat}(hi:i < L.length) (K:List Int) (m:Nat) (hm:m=keptF L[i] ((K[i]?).getD 0)):insG Fl.n ⟨L[i].n,L[i].b.take m,m⟩ (delG Fl.n L[i].n (crsL (L.take i) K))=crsL (L.take (i+1)) K:=by
 have h1:=insG_last Fl.n (X:=crsL (L.take i) K) (y:=⟨L[i].n,L[i].b.take m,m⟩) (fun x hx=>by
  have h2:x.n∈(crsL (L.take i) K).map Fl.n:=List.mem_map_of_mem hx
  rw [crsL_names] at h2
  obtain ⟨z,hz,e⟩:=List.mem_map.1 h2
  rw [← e]
  exact take_lt h hi z hz)
 rw [show (⟨L[i].n,L[i].b.take m,m⟩:Fl).n=L[i].n from rfl] at h1
 rw [h1,List.take_succ_eq_append_getElem hi,crsL_snoc,List.length_take,Nat.min_eq_left (by omega),keptN_get,hm]
theorem cln_in {L:List Fl}(h:RisG Fl.n L) {i:Nat}(hi:i < L.length):insG Fl.n L[i] (delG Fl.n L[i].n (L.take i))=L.take (i+1):=by
 rw [insG_last Fl.n (take_lt h hi),List.take_succ_eq_append_getElem hi]
theorem row_map {w:World}{B e size n:Nat}{v:Value}{xs:List Value}(h:w.ownsRow B e size v n xs) {mb m:Nat}{D:DataW Unit}(hm:w.ownsMap Try.prog 9 ptR mb m D):∀ k,v.ownBlock=some k→k ∉ [mb]:=fun k hk hmem=>by
 simp at hmem;subst hmem
 obtain ⟨es,cl,h1,_⟩:=hm
 obtain ⟨_,hr⟩:=h
 rcases hr with ⟨hv,_⟩ | ⟨g5,cap,cur,hv,_,hh,_⟩
 ·rw [hv] at hk;cases hk
 ·rw [hv] at hk
  have:g5=k:=by simpa [Value.ownBlock] using hk
  subst this
  rw [h1] at hh;cases hh
theorem row_zero {w:World}{B e size n:Nat}{v:Value}{xs:List Value}(h:w.ownsRow B e size v n xs):w.ownsRow 0 e size v n xs:=by
 obtain ⟨h1,h2⟩:=h
 refine ⟨h1,?_⟩
 rcases h2 with h2 | ⟨g,cap,cur,hv,hg,r⟩
 ·exact .inl h2
 ·exact .inr ⟨g,cap,cur,hv,Nat.zero_le _,r⟩
structure MakI (w:World) (p2:Nat) (dd:Dk) (nv:Value) (nn:Nat) (N:List Value) (wr:World):Prop where
 a:∃ O2 mb2 q2 X2,AtP wr O2 p2 mb2 q2 dd X2∧∀ k∈O2,w.heap.size≤k
 r:wr.ownsRow 0 9 1 nv nn N
 k:Kept [] w wr
theorem MakI.put {w wr W W':World}{p2:Nat}{dd dd':Dk}{nv:Value}{nn:Nat}{N:List Value}{O2:List Nat}{mb2:Nat}{q2:Int}{X2:List Pm}(h:AtP wr O2 p2 mb2 q2 dd X2) (hO:∀ k∈O2,w.heap.size≤k) (hr:wr.ownsRow 0 9 1 nv nn N) (hk:Kept [] w wr) (k:Kept [] wr W)
 (y:Pm) (hc:Bx W y.k 61 [y.v,.int .i64 y.l]) (ho:Own W y.v y.b) (hg:wr.heap.size≤y.k) (hf:∀ k,y.v.ownBlock=some k→wr.heap.size≤k∧k≠y.k) (hz:y.n.length≤1000000) {m:Nat}
 (hm:W'.ownsMap Try.prog 9 ptR mb2 m ((nmD (X2.map Pm.p)).put (.string y.n) (.lit (.int .i64 y.k)))) (hgr:W.grownBy W' (some mb2)) (hd:dd'=⟨insG Fl.n y.fl (delG Fl.n y.n dd.L),dd.s,dd.f,dd.d⟩) :
 MakI w p2 dd' nv nn N W'∧Kept [mb2] wr W':=by
 have hB:∀ i∈pmB y,wr.heap.size≤i:=fun i hi=>by
  rcases List.mem_cons.1 hi with rfl | hi
  ·exact hg
  ·exact (hf i (by simpa using hi)).1
 obtain ⟨h1,h2⟩:=h.put k (by simp) y hc ho (fun i hi hm=>by have:=h.lt i hm;have:=hB i hi;omega) (by
  unfold pmB
  refine List.nodup_cons.2 ⟨fun hm=>(hf _ (by simpa using hm)).2 rfl,by cases y.v.ownBlock <;> simp⟩) hz hm hgr
 have hk2:Kept [mb2] wr W':=(Kept.mono (S:=[]) k (by simp)).trans h2 (by simp)
 refine ⟨⟨⟨_,_,_,_,by rw [hd];exact h1,fun i hi=>?_⟩,hk2.ownsRow hr (row_map hr h.m),hk.trans hk2 (fun i hi=>by simp at hi;subst hi;exact .inr (hO _ h.mO))⟩,hk2⟩
 rcases List.mem_cons.1 hi with rfl | hi
 ·exact hO _ h.pO
 rcases List.mem_cons.1 hi with rfl | hi
 ·exact hO _ h.mO
 obtain ⟨x,hx,hi2⟩:=List.mem_flatMap.1 hi
 rcases (mem_insG Pm.n).1 hx with rfl | hx
 ·have:=hB i hi2;have:=hk.size;omega
 ·exact hO _ (h.xO ((delG_sub _ _ _).mem hx) hi2)
section
variable {w : World} {O : List Nat} {p mb : Nat} {q : Int} {d : Dk} {X : List Pm}
set_option linter.unusedSimpArgs false in
set_option maxHeartbeats 8000000 in
set_option maxRecDepth 100000 in
theorem crsP_call (h:AtP w O p mb q d X) (hb:BdD d) (ko:Option Addr) (kn kc:Nat) (K:List Int) (hK:SlI w ko kn kc K) (hKw:∀ z∈K,-9223372036854775808≤z∧z < 9223372036854775808) :
 Calls Try.prog 29 #[.pointer (some ⟨p,0,none⟩),.slice ko kn kc] w fun e w'=>NewD w (crsF K d) e w':=by
 have HH:=hide h
 have HKI:=hide hK
 have HKw:=hide hKw
 have cM:=hide (madeF_call h)
 have cW:=hide (newP_call w)
 have hXl:X.length≤10000000:=by rw [h.len];exact hb.n
 have cN:=hide (fun W (k:Kept [] w W)=>namP_call (h.kept k (by simp)) (by omega))
 have HBD:=hide hb
 have HXl:=hide hXl
 have hkl:K.length=kn:=hK.1
 have hkc:kn≤kc:=hK.2.1
 have hkm:=hK.2.2.1
 unfold maxLen at hkm
 clear h hb hK hKw
 go_enter Try.func29,Try.ntmps29
 go_wp2_with (first
  | (go_at_call 35;refine cM.out.mono ?_;clear cM;rintro _ w1 ⟨rfl,hw1⟩;obtain rfl:=hw1.symm)
  | (go_at_call 9;refine cW.out.mono ?_;clear cW;rintro _ w1 ⟨p2,O2,rfl,hA2,hO2,hk1⟩;have HA2:=hide hA2;have HO2:=hide hO2;have HK1:=hide hk1;clear hA2 hO2 hk1)
  | (go_at_call 59;refine (cN.out _ HK1.out).mono ?_;clear cN;rintro _ w2 ⟨nao,nc,rfl,hnc,hnm,hr2,hk2⟩;have HR2:=hide hr2;have HK2:=hide hk2;clear hr2 hk2))
 go_loopw [16] (fun iv wr=>∃ i:Nat,iv=.int .i64 (i:Int)∧i≤X.length∧Hid (MakI w p2 ⟨crsL (d.L.take i) K,0,-1,false⟩ (.slice nao X.length nc) X.length (X.map fun x=>.string (str x.n)) wr)) (fun iv _=>X.length - (intOf iv).toNat)
 case atStart =>
  obtain ⟨mb2,q2,X2,h2⟩:=HA2.out
  refine ⟨0,rfl,Nat.zero_le _,⟨⟨O2,mb2,q2,X2,?_,HO2.out⟩,?_,HK1.out.trans HK2.out (by simp)⟩⟩
  ·exact h2.kept HK2.out (by simp)
  ·exact row_zero HR2.out
 case round =>
  obtain ⟨i,rfl,hi,HI⟩:=hrel
  by_cases hlt:i < X.length
  ·obtain ⟨O2',mb2,q2,X2,h2,hO2⟩:=HI.out.a
   have hlt':(i:Int) < X.length:=by omega
   have hiL:i < d.L.length:=by rw [← HH.out.len];exact hlt
   have HKr:=hide HI.out.k
   have HR:=hide HI.out.r
   have H2:=hide h2
   have HO2:=hide hO2
   have hA:=HH.out.kept HKr.out (by simp)
   have hx:X[i]∈X:=List.getElem_mem hlt
   have hLe:d.L[i]=X[i].fl:=by obtain h9:=HH.out.L;rw [List.getElem_of_eq h9.symm hiL,List.getElem_map]
   have HX2:Hid (X2.length≤1000000000):=by
    show _≤_
    rw [h2.len]
    have h9:=crsL_names (d.L.take i) K
    have h8:=congrArg List.length h9
    simp only [List.length_map,List.length_take] at h8
    have:=HH.out.len
    have:=HXl.out
    show (crsL (d.L.take i) K).length≤_
    omega
   have hlm:mb ∉ [mb2]:=fun hm=>by
    simp at hm;subst hm
    have h8:=HO2.out _ h2.mO
    have h9:=HH.out.lt _ HH.out.mO
    omega
   have hp2:p2 ∉ [mb2]:=by simp;exact fun e=>h2.mp e.symm
   have hpm:p ∉ [mb2]:=by
    simp;intro e;subst e
    have h8:=HO2.out _ h2.mO
    have h9:=HH.out.h.lt
    omega
   have hfind:=fun W (k:Kept [mb2] wr W)=>HH.out.find hx W (map_keptF k hA.m hlm)
   obtain ⟨y,hy⟩:∃ y,y=X[i]:=⟨_,rfl⟩
   rw [← hy] at hLe hfind
   have HSx:Hid (∀ w9,Kept [mb2] wr w9→w9.cell? ⟨p2,0,none⟩=some (.map (some mb2))∧w9.cell? ⟨p,0,none⟩=some (.map (some mb))∧(Instr.lookup 54 (.map (some mb)) (.string (str y.n)) false).run Try.prog w9=.ok (.pointer (some ⟨y.k,0,none⟩)) w9):=fun w9 k=>⟨k.cell (h2.h.cell 0 rfl) hp2,k.cell (hA.h.cell 0 rfl) hpm,hfind w9 k⟩
   have HYN:Hid (y.n.length≤1000000):=by rw [hy];exact HH.out.z _ hx
   have HBc:Hid (Bx wr y.k 61 [y.v,.int .i64 y.l]∧Own wr y.v y.b∧y.l≤y.b.length∧y.b.length≤100000000000):=by
    have h7:=HBD.out.l d.L[i] (List.getElem_mem hiL)
    have h6:=HBD.out.b d.L[i] (List.getElem_mem hiL)
    rw [hLe] at h7 h6
    refine ⟨by rw [hy];exact hA.c _ hx,by rw [hy];exact hA.o _ hx,h7,?_⟩
    have:y.b.length≤10000000000:=h6
    omega
   obtain ⟨gN,capN,he,_,_⟩:=World.ownsRow.form HR.out (by omega)
   obtain ⟨rfl,rfl⟩:nao=some ⟨gN,0,none⟩∧nc=capN:=by simpa using he
   have d0:=World.ownsRow.cellAt HR.out i (by omega)
   rw [show ((X.map fun x=>Value.string (str x.n))[i]?)=some (.string (str y.n)) from by simp [hlt,hy]] at d0
   obtain ⟨kk,hkk⟩:∃ kk,kk=(K[i]?).getD 0:=⟨_,rfl⟩
   have HNX:Hid ((⟨crsL (d.L.take (i+1)) K,0,-1,false⟩:Dk)=⟨insG Fl.n ⟨y.n,y.b.take (keptF ⟨y.n,y.b,y.l⟩ kk),keptF ⟨y.n,y.b,y.l⟩ kk⟩ (delG Fl.n y.n (crsL (d.L.take i) K)),0,-1,false⟩):=by
    have h5:=crs_in HH.out.sD hiL K (keptF ⟨y.n,y.b,y.l⟩ kk) (by rw [hLe,hkk];rfl)
    rw [hLe] at h5
    show _=_
    rw [← h5];rfl
   have HCl:=hide (fun W (k:Kept [] wr W) hkk64=>leftF_call (HBc.out.1.kept k (by simp)) (k.ownsRow HBc.out.2.1 (by simp)) HBc.out.2.2.1 HBc.out.2.2.2 kk hkk64 y.n)
   clear he hi hx hLe hfind h2 hO2 hA hlm hp2 hpm hy HI
   by_cases hik:i < kn
   ·have hik':(i:Int) < kn:=by omega
    have hikK:i < K.length:=by omega
    obtain ⟨kb,kof,hke,hkv⟩:=HKI.out.2.2.2 i hikK
    subst hke
    have k0:=HKr.out.cell hkv (by simp)
    have e1:kk=K[i]:=by rw [hkk,List.getElem?_eq_getElem hikK];rfl
    have HW:Hid (-9223372036854775808≤kk∧kk < 9223372036854775808):=by rw [e1];exact HKw.out _ (List.getElem_mem hikK)
    rw [← e1] at k0
    clear hkk e1 hkv
    go_upto_region 10 with fail
    refine wp_region_held_drew (S:=fun w9=>w9.cell? ⟨p2,0,none⟩=some (.map (some mb2))∧w9.cell? ⟨p,0,none⟩=some (.map (some mb))∧(Instr.lookup 54 (.map (some mb)) (.string (str y.n)) false).run Try.prog w9=.ok (.pointer (some ⟨y.k,0,none⟩)) w9) (by kernel_rfl) (HSx.out _ (Kept.refl _ _).drew) (fun hHeld=>?_)
    try simp only [List.append_eq,List.cons_append,List.nil_append]
    refine tks [0,1,2,3,4,5,6,7,8,9,10,11] (by rfl) (by kernel_rfl) (fun _ _ _ _ _ h=>h) hHeld ?_
    iterate 12
     refine yk ?_ rfl (Or.inl ⟨by rfl,?_⟩) ?_
     rotate_left
     ·intro w9 hSw;obtain ⟨m0,m1,m2⟩:=hSw;go_simp;(try with_reducible rfl)
     try simp only [sT,Act.put]
    refine yk0 ?_
    simp only [setK,sT]
    refine rd1 12 (by kernel_rfl) rfl (fun K0 hK0=>?_)
    go_simp
    refine (HCl.out _ (Kept.refl [] _).drew HW.out).mono ?_
    rintro _ w4 ⟨g4,a4,k4,rfl,hB4,hO4,hg4,hf4,hk4⟩
    have hK4:Kept [] wr w4:=(Kept.refl [] wr).drew.trans hk4 (by simp)
    have HK4:=hide hK4
    have HB4:=hide hB4
    have HO4:=hide hO4
    have HG4:Hid (wr.heap.size≤g4):=hg4
    have HF4:Hid (∀ k,_→wr.heap.size≤k∧k≠g4):=hf4
    have hs4:=HSx.out w4 (hK4.mono (by simp))
    clear hB4 hO4 hg4 hf4 hk4 hK4 hHeld
    go_wp2_with fail
    refine hK0.out _ _ hs4 (fun hHeld=>?_)
    clear hK0 K0 hs4
    try simp only [sT,Act.put]
    refine rd1 13 (by kernel_rfl) rfl (fun K0 hK0=>?_)
    rw [if_pos (by rfl)]
    refine op_mapF _ _ _ rfl mb2 _ _ (map_keptF HK4.out H2.out.m (by simp)) HX2.out rfl y.n HYN.out rfl g4 rfl ?_
    intro w5 hm5 hg5
    obtain ⟨hI5,hk5⟩:=MakI.put H2.out HO2.out HR.out HKr.out HK4.out ⟨y.n,y.b.take (keptF ⟨y.n,y.b,y.l⟩ kk),keptF ⟨y.n,y.b,y.l⟩ kk,g4,a4,k4⟩ HB4.out HO4.out HG4.out HF4.out HYN.out hm5 hg5 HNX.out
    have HI5:=hide hI5
    have hs5:=HSx.out w5 hk5
    clear hm5 hg5 hI5 hk5 hHeld
    refine hK0.out _ _ hs5 (fun hHeld=>?_)
    clear hK0 K0 hHeld hs5
    try simp only [sT,Act.put]
    refine wpAnyH_done (by kernel_rfl) ?_ _
    go_wp2_with fail
    go_roundw
    case rel=>exact ⟨i+1,by go_num,by omega,HI5⟩
    case measure=>simp [intOf];omega
   ·have hik':¬ (i:Int) < kn:=by omega
    have e1:kk=0:=by rw [hkk,List.getElem?_eq_none (by omega)];rfl
    have HW:Hid (-9223372036854775808≤kk∧kk < 9223372036854775808):=by rw [e1];exact ⟨by decide,by decide⟩
    subst e1
    clear hkk
    go_upto_region 10 with fail
    refine wp_region_held_drew (S:=fun w9=>w9.cell? ⟨p2,0,none⟩=some (.map (some mb2))∧w9.cell? ⟨p,0,none⟩=some (.map (some mb))∧(Instr.lookup 54 (.map (some mb)) (.string (str y.n)) false).run Try.prog w9=.ok (.pointer (some ⟨y.k,0,none⟩)) w9) (by kernel_rfl) (HSx.out _ (Kept.refl _ _).drew) (fun hHeld=>?_)
    try simp only [List.append_eq,List.cons_append,List.nil_append]
    refine tks [0,1,2,3,4,5,6,7,8,9,10,11] (by rfl) (by kernel_rfl) (fun _ _ _ _ _ h=>h) hHeld ?_
    iterate 12
     refine yk ?_ rfl (Or.inl ⟨by rfl,?_⟩) ?_
     rotate_left
     ·intro w9 hSw;obtain ⟨m0,m1,m2⟩:=hSw;go_simp;(try with_reducible rfl)
     try simp only [sT,Act.put]
    refine yk0 ?_
    simp only [setK,sT]
    refine rd1 12 (by kernel_rfl) rfl (fun K0 hK0=>?_)
    go_simp
    refine (HCl.out _ (Kept.refl [] _).drew HW.out).mono ?_
    rintro _ w4 ⟨g4,a4,k4,rfl,hB4,hO4,hg4,hf4,hk4⟩
    have hK4:Kept [] wr w4:=(Kept.refl [] wr).drew.trans hk4 (by simp)
    have HK4:=hide hK4
    have HB4:=hide hB4
    have HO4:=hide hO4
    have HG4:Hid (wr.heap.size≤g4):=hg4
    have HF4:Hid (∀ k,_→wr.heap.size≤k∧k≠g4):=hf4
    have hs4:=HSx.out w4 (hK4.mono (by simp))
    clear hB4 hO4 hg4 hf4 hk4 hK4 hHeld
    go_wp2_with fail
    refine hK0.out _ _ hs4 (fun hHeld=>?_)
    clear hK0 K0 hs4
    try simp only [sT,Act.put]
    refine rd1 13 (by kernel_rfl) rfl (fun K0 hK0=>?_)
    rw [if_pos (by rfl)]
    refine op_mapF _ _ _ rfl mb2 _ _ (map_keptF HK4.out H2.out.m (by simp)) HX2.out rfl y.n HYN.out rfl g4 rfl ?_
    intro w5 hm5 hg5
    obtain ⟨hI5,hk5⟩:=MakI.put H2.out HO2.out HR.out HKr.out HK4.out ⟨y.n,y.b.take (keptF ⟨y.n,y.b,y.l⟩ 0),keptF ⟨y.n,y.b,y.l⟩ 0,g4,a4,k4⟩ HB4.out HO4.out HG4.out HF4.out HYN.out hm5 hg5 HNX.out
    have HI5:=hide hI5
    have hs5:=HSx.out w5 hk5
    clear hm5 hg5 hI5 hk5 hHeld
    refine hK0.out _ _ hs5 (fun hHeld=>?_)
    clear hK0 K0 hHeld hs5
    try simp only [sT,Act.put]
    refine wpAnyH_done (by kernel_rfl) ?_ _
    go_wp2_with fail
    go_roundw
    case rel=>exact ⟨i+1,by go_num,by omega,HI5⟩
    case measure=>simp [intOf];omega
  ·have hlt':¬ (i:Int) < X.length:=by omega
   have HE:Hid (d.L.take i=d.L):=List.take_of_length_le (by rw [← HH.out.len];omega)
   go_wp2_with fail
   go_ret
   obtain ⟨O2',mb2,q2,X2,h2,hO2⟩:=HI.out.a
   rw [HE.out] at h2
   exact ⟨p2,O2',rfl,⟨mb2,q2,X2,h2⟩,hO2,HI.out.k⟩
end
end Go.Proofs.Yteiagkjhmhllnaa
