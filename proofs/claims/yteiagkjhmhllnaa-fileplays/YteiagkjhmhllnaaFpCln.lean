/-
  The program's disk: Clone. (Written by mk/mkfpcrs.py.)
-/
import Derived.Test.YteiagkjhmhllnaaRegG
import Derived.Test.YteiagkjhmhllnaaFpCrs
namespace Go.Proofs.Yteiagkjhmhllnaa
open Go.RowKit
theorem rowTF:RowT Try.prog 56 4:=⟨_,Try.underlying56,rfl,by kernel_rfl⟩
section
variable {w : World} {O : List Nat} {p mb : Nat} {q : Int} {d : Dk} {X : List Pm}
set_option linter.unusedSimpArgs false in
set_option maxHeartbeats 8000000 in
set_option maxRecDepth 100000 in
theorem clnP_call (h:AtP w O p mb q d X) (hb:BdD d) :
 Calls Try.prog 31 #[.pointer (some ⟨p,0,none⟩)] w fun e w'=>NewD w d e w':=by
 have HH:=hide h
 have cM:=hide (madeF_call h)
 have hXl:X.length≤10000000:=by rw [h.len];exact hb.n
 have cN:=hide (fun W (k:Kept [] w W)=>namP_call (h.kept k (by simp)) (by omega))
 have HBD:=hide hb
 have HXl:=hide hXl
 have HB:=hide h.h
 have HT:Hid (RowT Try.prog 56 ([.map (some mb),.int .i64 d.s,.int .i64 q,.bool d.d]:List Value).length):=rowTF
 have HB2:=hide (Bx.new w 56 [.map none,.int .i64 0,.int .i64 0,.bool false])
 have HL2:Hid (([.map (some mb),.int .i64 d.s,.int .i64 q,.bool d.d]:List Value).length=([.map none,.int .i64 0,.int .i64 0,.bool false]:List Value).length):=rfl
 have HO2:Hid (∀ v∈([.map (some mb),.int .i64 d.s,.int .i64 q,.bool d.d]:List Value),v.oneCell'=true):=fun v hv=>by simp at hv;rcases hv with rfl | rfl | rfl | rfl <;> rfl
 have hmk:=makeMF
 clear h hb
 go_enter Try.func31,Try.ntmps31
 go_upto_region 4 with (first
  | (go_at_call 35;refine cM.out.mono ?_;clear cM;rintro _ w1 ⟨rfl,hw1⟩;obtain rfl:=hw1.symm)
  | ((with_reducible refine wl_load_bx HB.out HT.out ?_ ?_);rfl)
  | ((with_reducible refine wl_store_bx HB2.out HL2.out HO2.out HT.out ?_ ?_ ?_);rfl;rfl;intro w3 HB3 HK3))
 have HK30:Hid (Kept [] w w3):=((Kept.refl [] w).alloc _).trans HK3.out (by simp)
 have hB4:=HB3.out.kept ((Kept.refl [] w3).alloc (.map #[] 0)) (by simp)
 have z0:=hB4.froz 0
 have y0:=hB4.cell 0 rfl
 have HB5:=hide (hB4.set 0 (.map (some w3.heap.size)))
 have k4:Kept [w.heap.size] (w3.alloc (.map #[] 0)) ((w3.alloc (.map #[] 0)).setCell ⟨w.heap.size,0,none⟩ (.map (some w3.heap.size))):=(Kept.refl _ _).setCell (by simp) _
 have HK4:Hid (Kept [] w ((w3.alloc (.map #[] 0)).setCell ⟨w.heap.size,0,none⟩ (.map (some w3.heap.size)))):=(HK30.out.alloc _).trans k4 (by simp)
 have HA4:Hid (AtP ((w3.alloc (.map #[] 0)).setCell ⟨w.heap.size,0,none⟩ (.map (some w3.heap.size))) [w.heap.size,w3.heap.size] w.heap.size w3.heap.size q ⟨[],d.s,d.f,d.d⟩ []):=by
  have hlt:w.heap.size < w3.heap.size:=HB3.out.lt
  exact ⟨HB5.out,map_keptF k4 (World.ownsMap_made w3 Try.prog 9 ptR) (by simp;omega),fun x hx=>(by cases hx),fun x hx=>(by cases hx),rfl,rfl,by simp;omega,List.Pairwise.nil,HH.out.f,fun x hx=>(by cases hx)⟩
 have HO4:Hid (∀ k∈[w.heap.size,w3.heap.size],w.heap.size≤k):=fun k hk=>by
  have hlt:w.heap.size < w3.heap.size:=HB3.out.lt
  simp at hk;omega
 clear hB4 k4
 go_wp2_with (go_at_call 59;refine (cN.out _ HK4.out).mono ?_;clear cN;rintro _ w2 ⟨nao,nc,rfl,hnc,hnm,hr2,hk2⟩;have HR2:=hide hr2;have HK2:=hide hk2;clear hr2 hk2)
 have HA5:=hide (HA4.out.kept HK2.out (by simp))
 have HK5:Hid (Kept [] w w2):=HK4.out.trans HK2.out (by simp)
 generalize w3.heap.size=mb0 at *
 obtain ⟨p2,hp2⟩:∃ p2,p2=w.heap.size:=⟨_,rfl⟩
 have HPE:=hide hp2
 rw [← hp2] at HA5 HO4
 rw [← hp2]
 clear z0 y0 HB5 HK4 HA4 HB3 HK3 HB2 HK30 HK2 hp2
 go_loopw [17] (fun iv wr=>∃ i:Nat,iv=.int .i64 (i:Int)∧i≤X.length∧Hid (MakI w p2 ⟨d.L.take i,d.s,d.f,d.d⟩ (.slice nao X.length nc) X.length (X.map fun x=>.string (str x.n)) wr)) (fun iv _=>X.length - (intOf iv).toNat)
 case atStart =>
  exact ⟨0,rfl,Nat.zero_le _,⟨⟨_,mb0,q,[],HA5.out,fun k hk=>by have:=HO4.out k hk;rw [HPE.out] at this;exact this⟩,row_zero HR2.out,HK5.out⟩⟩
 case round =>
  obtain ⟨i,rfl,hi,HI⟩:=hrel
  by_cases hlt:i < X.length
  ·obtain ⟨O2',mb2,q2,X2,h2,hO2⟩:=HI.out.a
   have hlt':(i:Int) < X.length:=by omega
   have hiL:i < d.L.length:=by rw [← HH.out.len];exact hlt
   have HKr:=hide HI.out.k
   have HR:=hide HI.out.r
   have H2:=hide h2
   have HO2:=hide hO2
   have hA:=HH.out.kept HKr.out (by simp)
   have hx:X[i]∈X:=List.getElem_mem hlt
   have hLe:d.L[i]=X[i].fl:=by obtain h9:=HH.out.L;rw [List.getElem_of_eq h9.symm hiL,List.getElem_map]
   have HX2:Hid (X2.length≤1000000000):=by
    show _≤_
    rw [h2.len]
    have:=HH.out.len
    have:=HXl.out
    show (d.L.take i).length≤_
    rw [List.length_take]
    omega
   have hlm:mb ∉ [mb2]:=fun hm=>by
    simp at hm;subst hm
    have h8:=HO2.out _ h2.mO
    have h9:=HH.out.lt _ HH.out.mO
    omega
   have hp2:p2 ∉ [mb2]:=by simp;exact fun e=>h2.mp e.symm
   have hpm:p ∉ [mb2]:=by
    simp;intro e;subst e
    have h8:=HO2.out _ h2.mO
    have h9:=HH.out.h.lt
    omega
   have hfind:=fun W (k:Kept [mb2] wr W)=>HH.out.find hx W (map_keptF k hA.m hlm)
   obtain ⟨y,hy⟩:∃ y,y=X[i]:=⟨_,rfl⟩
   rw [← hy] at hLe hfind
   have HSx:Hid (∀ w9,Kept [mb2] wr w9→w9.cell? ⟨p2,0,none⟩=some (.map (some mb2))∧w9.cell? ⟨p,0,none⟩=some (.map (some mb))∧(Instr.lookup 54 (.map (some mb)) (.string (str y.n)) false).run Try.prog w9=.ok (.pointer (some ⟨y.k,0,none⟩)) w9):=fun w9 k=>⟨k.cell (h2.h.cell 0 rfl) hp2,k.cell (hA.h.cell 0 rfl) hpm,hfind w9 k⟩
   have HYN:Hid (y.n.length≤1000000):=by rw [hy];exact HH.out.z _ hx
   have HBc:Hid (Bx wr y.k 61 [y.v,.int .i64 y.l]∧Own wr y.v y.b∧y.b.length≤100000000000):=by
    have h6:=HBD.out.b d.L[i] (List.getElem_mem hiL)
    rw [hLe] at h6
    refine ⟨by rw [hy];exact hA.c _ hx,by rw [hy];exact hA.o _ hx,?_⟩
    have:y.b.length≤10000000000:=h6
    omega
   obtain ⟨gN,capN,he,_,_⟩:=World.ownsRow.form HR.out (by omega)
   obtain ⟨rfl,rfl⟩:nao=some ⟨gN,0,none⟩∧nc=capN:=by simpa using he
   have d0:=World.ownsRow.cellAt HR.out i (by omega)
   rw [show ((X.map fun x=>Value.string (str x.n))[i]?)=some (.string (str y.n)) from by simp [hlt,hy]] at d0
   have HNX:Hid ((⟨d.L.take (i+1),d.s,d.f,d.d⟩:Dk)=⟨insG Fl.n ⟨y.n,y.b,y.l⟩ (delG Fl.n y.n (d.L.take i)),d.s,d.f,d.d⟩):=by
    have h5:=cln_in HH.out.sD hiL
    rw [hLe] at h5
    show _=_
    rw [← h5];rfl
   have HCl:=hide (fun W (k:Kept [] wr W)=>fcloneF_call (HBc.out.1.kept k (by simp)) (k.ownsRow HBc.out.2.1 (by simp)) HBc.out.2.2)
   clear he hi hx hLe hfind h2 hO2 hA hlm hp2 hpm hy HI
   go_upto_region 8 with fail
   refine wp_region_held_drew (S:=fun w9=>w9.cell? ⟨p2,0,none⟩=some (.map (some mb2))∧w9.cell? ⟨p,0,none⟩=some (.map (some mb))∧(Instr.lookup 54 (.map (some mb)) (.string (str y.n)) false).run Try.prog w9=.ok (.pointer (some ⟨y.k,0,none⟩)) w9) (by kernel_rfl) (HSx.out _ (Kept.refl _ _).drew) (fun hHeld=>?_)
   try simp only [List.append_eq,List.cons_append,List.nil_append]
   refine tks [0,1,2,3,4,5,6,7,8] (by rfl) (by kernel_rfl) (fun _ _ _ _ _ h=>h) hHeld ?_
   iterate 9
    refine yk ?_ rfl (Or.inl ⟨by rfl,?_⟩) ?_
    rotate_left
    ·intro w9 hSw;obtain ⟨m0,m1,m2⟩:=hSw;go_simp;(try with_reducible rfl)
    try simp only [sT,Act.put]
   refine yk0 ?_
   simp only [setK,sT]
   refine rd1 9 (by kernel_rfl) rfl (fun K0 hK0=>?_)
   go_simp
   refine (HCl.out _ (Kept.refl [] _).drew).mono ?_
   rintro _ w4 ⟨g4,a4,k4,rfl,hB4,hO4,hg4,hf4,hk4⟩
   have hK4:Kept [] wr w4:=(Kept.refl [] wr).drew.trans hk4 (by simp)
   have HK4:=hide hK4
   have HB4:=hide hB4
   have HO4:=hide hO4
   have HG4:Hid (wr.heap.size≤g4):=hg4
   have HF4:Hid (∀ k,_→wr.heap.size≤k∧k≠g4):=hf4
   have hs4:=HSx.out w4 (hK4.mono (by simp))
   clear hB4 hO4 hg4 hf4 hk4 hK4 hHeld
   go_wp2_with fail
   refine hK0.out _ _ hs4 (fun hHeld=>?_)
   clear hK0 K0 hs4
   try simp only [sT,Act.put]
   refine rd1 10 (by kernel_rfl) rfl (fun K0 hK0=>?_)
   rw [if_pos (by rfl)]
   refine op_mapF _ _ _ rfl mb2 _ _ (map_keptF HK4.out H2.out.m (by simp)) HX2.out rfl y.n HYN.out rfl g4 rfl ?_
   intro w5 hm5 hg5
   obtain ⟨hI5,hk5⟩:=MakI.put H2.out HO2.out HR.out HKr.out HK4.out ⟨y.n,y.b,y.l,g4,a4,k4⟩ HB4.out HO4.out HG4.out HF4.out HYN.out hm5 hg5 HNX.out
   have HI5:=hide hI5
   have hs5:=HSx.out w5 hk5
   clear hm5 hg5 hI5 hk5 hHeld
   refine hK0.out _ _ hs5 (fun hHeld=>?_)
   clear hK0 K0 hHeld hs5
   try simp only [sT,Act.put]
   refine wpAnyH_done (by kernel_rfl) ?_ _
   go_wp2_with fail
   go_roundw
   case rel=>exact ⟨i+1,by go_num,by omega,HI5⟩
   case measure=>simp [intOf];omega
  ·have hlt':¬ (i:Int) < X.length:=by omega
   have HE:Hid (d.L.take i=d.L):=List.take_of_length_le (by rw [← HH.out.len];omega)
   go_wp2_with fail
   go_ret
   obtain ⟨O2',mb2,q2,X2,h2,hO2⟩:=HI.out.a
   rw [HE.out] at h2
   exact ⟨p2,O2',rfl,⟨mb2,q2,X2,h2⟩,hO2,HI.out.k⟩
end
end Go.Proofs.Yteiagkjhmhllnaa
