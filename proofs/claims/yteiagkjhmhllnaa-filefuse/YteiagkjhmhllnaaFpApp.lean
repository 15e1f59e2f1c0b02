/-
  The program's disk: what a call does to a file in its place; Append. (Written by mk/mkfpapp.py.)
-/
import Derived.Test.YteiagkjhmhllnaaRegG
import Derived.Test.YteiagkjhmhllnaaFpFil2
namespace Go.Proofs.Yteiagkjhmhllnaa
open Go.RowKit
theorem op_mapF {w:World}{o:Oper}{a:Act}{K:Act→World→Prop}{Q:Exit→Act→World→Prop}(m x v:Operand) (hop:o.op=Op.mapUpdate 54 m x v) (b nn:Nat) (D:DataW Unit) (hown:w.ownsMap Try.prog 9 ptR b nn D) (hnn:nn≤1000000000)
 (hm:a.eval m=.map (some b)) (n:List UInt8) (hn:n.length≤1000000) (hx:a.eval x=.string (str n)) (g:Nat) (hv:a.eval v=.pointer (some ⟨g,0,none⟩))
 (h:∀ w',w'.ownsMap Try.prog 9 ptR b (nn+1) (D.put (.string n) (.lit (.int .i64 g)))→w.grownBy w' (some b)→K (a.put o.dst undef) w'):Oper.wp Try.prog o a w K Q:=by
 obtain ⟨w',hrun,r1,r2⟩:=hown.update (t:=54) (e:=59) keysF Try.underlying54 (by unfold maxLen;omega) (keyF hn) (ptR_mk g)
 unfold Oper.wp
 simp [execOp,hop,hm,hx,hv,hrun,Result.andThen]
 exact h w' r1 r2
theorem op_delF {w:World}{o:Oper}{a:Act}{K:Act→World→Prop}{Q:Exit→Act→World→Prop}(m x:Operand) (hop:o.op=Op.call { callee:=Callee.builtin Builtin.delete,args:=#[m,x],argTypes:=#[54,9] }) (b nn:Nat) (D:DataW Unit) (hown:w.ownsMap Try.prog 9 ptR b nn D)
 (hm:a.eval m=.map (some b)) (n:List UInt8) (hn:n.length≤1000000) (hx:a.eval x=.string (str n))
 (h:∀ w',w'.ownsMap Try.prog 9 ptR b nn (D.del (.string n))→w.grownBy w' (some b)→K (a.put o.dst (.tuple #[])) w'):Oper.wp Try.prog o a w K Q:=by
 obtain ⟨w',hrun,r1,r2⟩:=hown.drop (t:=54) (e:=59) keysF Try.underlying54 (keyF hn) o.type
 unfold Oper.wp
 simp [execOp,hop,resolve,invoke,builtin,hm,hx,hrun,Result.andThen]
 exact h w' r1 r2.grown
section
variable {w : World} {O : List Nat} {p mb : Nat} {q : Int} {d : Dk} {X : List Pm}
theorem AtP.xb (h:AtP w O p mb q d X) {x:Pm}(hx:x∈X):x.v.ownBlock≠some x.k:=fun e=>by
 obtain ⟨hnd,_,_⟩:=h.nX
 obtain ⟨i,hi,rfl⟩:=List.getElem_of_mem hx
 have h1:=(List.nodup_append.1 ((blX_get X i hi).nodup_iff.1 hnd)).1
 unfold pmB at h1
 exact (List.nodup_cons.1 h1).1 (by rw [e];simp)
def UpP (w:World) (O:List Nat) (p mb:Nat) (q:Int) (d':Dk) (w':World):Prop:=∃ O' X',AtP w' O' p mb q d' X'∧Kept O w w'∧∀ k∈O',k∈O∨w.heap.size≤k
theorem UpP.fq {d':Dk}{w':World}(h:UpP w O p mb q d' w'):FqP p w O d' w':=by
 obtain ⟨O',X',h1,h2,h3⟩:=h
 exact ⟨O',⟨mb,q,X',h1⟩,h2,h3⟩
theorem AtP.up {W:World}{d':Dk}(h:AtP w O p mb q d X) {i:Nat}(hi:i < X.length) (hL:i < d.L.length) (g:Fl→Fl) (v':Value) (B:List Int) (m:Nat) (K:Kept (pmB X[i]) w W) (hc:Bx W X[i].k 61 [v',.int .i64 m]) (ho:Own W v' B)
 (hf:∀ k,v'.ownBlock=some k→X[i].v.ownBlock=some k∨w.heap.size≤k) (hg:g d.L[i]=⟨X[i].n,B,m⟩) (hd:d'=⟨updF d.L i g,d.s,d.f,d.d⟩):UpP w O p mb q d' W:=by
 obtain ⟨a,c,rfl,_,_,_⟩:=mkown ho
 obtain ⟨O',h1,h2,h3⟩:=h.set (d':=d') i hi ⟨X[i].n,B,m,X[i].k,a,c⟩ rfl rfl K hc ho hf (by rw [hd,updF_at d.L i hL,hg];rfl) (by rw [hd]) (by rw [hd]) (by rw [hd])
 exact ⟨O',_,h1,h2,h3⟩
theorem AtP.app (h:AtP w O p mb q d X) {n:List UInt8}{i:Nat}(hf:findF n d.L=some i) (bo:Option Addr) (bn bc:Nat) (B:List Int) (hS:Sl w bo bn bc B) (hbn:bn≤1000000) (hbd:∀ x∈d.L,x.b.length≤10000000000) :
 ∃ g,plP X (some i)=.pointer (some ⟨g,0,none⟩)∧Calls Try.prog 39 #[.pointer (some ⟨g,0,none⟩),.slice bo bn bc] w fun e w'=>e=.returned (.tuple #[])∧UpP w O p mb q ⟨updF d.L i (fun x=>⟨x.n,x.b++B,x.l⟩),d.s,d.f,d.d⟩ w':=by
 obtain ⟨hi,hL,hn,he⟩:=h.got hf
 have hx:X[i]∈X:=List.getElem_mem hi
 have hb:=hbd d.L[i] (List.getElem_mem hL)
 rw [he] at hb
 refine ⟨X[i].k,plP_some hi,(putF_call (h.c _ hx) (h.o _ hx) (h.xb hx) bo bn bc B hS (by have:X[i].b.length≤10000000000:=hb;omega)).mono ?_⟩
 rintro _ w' ⟨rfl,v',h1,h2,h3,h4⟩
 exact ⟨rfl,h.up hi hL _ v' _ _ h4 h1 h2 h3 (by rw [he];rfl) rfl⟩
theorem sl_map {ao:Option Addr}{n c:Nat}{l:List Int}(h:Sl w ao n c l) {b m:Nat}{D:DataW Unit}(hm:w.ownsMap Try.prog 9 ptR b m D):0 < n→∀ k∈blk ao,k≠b:=fun hn k hk e=>by
 obtain ⟨g,o,rfl,hc⟩:=h.some hn
 have h0:=hc 0 hn
 have hg:k=g:=by simpa [blk] using hk
 subst hg;subst e
 obtain ⟨es,clock,hb,_⟩:=hm
 simp [World.cell?,hb] at h0
theorem AtP.fresh {W W':World}(h:AtP w O p mb q d X) (k:Kept [] w W) {g m:Nat}(hB:Bx W g 61 [.slice none 0 0,.int .i64 0]) (hg:w.heap.size≤g) {n:List UInt8}(hn:n.length≤1000000) (hf:findF n d.L=none)
 (hm:W'.ownsMap Try.prog 9 ptR mb m ((nmD (X.map Pm.p)).put (.string n) (.lit (.int .i64 g)))) (hgr:W.grownBy W' (some mb)):UpP w O p mb q ⟨apL n d.L,d.s,d.f,d.d⟩ W'∧Kept [mb] w W':=by
 have hlt:=h.lt
 obtain ⟨h1,h2⟩:=h.put k (by simp) ⟨n,[],0,g,none,0⟩ hB (World.ownsRow_nil _ _ _ _) (fun i hi hmO=>by
  have:i=g:=by simpa [pmB,Pm.v,Value.ownBlock] using hi
  subst this
  have:=hlt _ hmO;omega) (by simp [pmB,Pm.v,Value.ownBlock]) hn hm hgr
 have hk:Kept [mb] w W':=(k.mono (by simp)).trans h2 (by simp)
 have hno:=findF_none hf
 have hno':=h.not hf
 have e1:apL n d.L=insG Fl.n ⟨n,[],0⟩ (delG Fl.n n d.L):=by
  unfold apL;rw [if_pos hf,inF_ins,delG_no Fl.n hno]
 refine ⟨⟨_,_,by rw [e1];exact h1,hk.mono (by simp [h.mO]),fun i hi=>?_⟩,hk⟩
 rcases List.mem_cons.1 hi with rfl | hi
 ·exact .inl h.pO
 rcases List.mem_cons.1 hi with rfl | hi
 ·exact .inl h.mO
 obtain ⟨x,hx,hi⟩:=List.mem_flatMap.1 hi
 rcases (mem_insG Pm.n).1 hx with rfl | hx
 ·have:i=g:=by simpa [pmB,Pm.v,Value.ownBlock] using hi
  exact .inr (by omega)
 ·exact .inl (h.xO ((delG_sub _ _ _).mem hx) hi)
set_option linter.unusedSimpArgs false in
set_option maxHeartbeats 8000000 in
set_option maxRecDepth 100000 in
theorem appP_call (h:AtP w O p mb q d X) (hb:BdD d) (n:List UInt8) (hn:n.length≤1000000) (bo:Option Addr) (bn bc:Nat) (B:List Int) (hS:Sl w bo bn bc B) (hbn:bn≤1000000) :
 Calls Try.prog 11 #[.pointer (some ⟨p,0,none⟩),.string (str n),.slice bo bn bc] w fun e w'=>e=.returned (.int .i64 (appF n B d).2)∧FqP p w O (appF n B d).1 w':=by
 have HH:=hide h
 have cW:=hide (worksF_call h)
 cases hdd:d.d
 rotate_left
 ·have HE:Hid (appF n B d=(d,7)):=by show _=_;unfold appF;rw [if_pos hdd]
  rw [hdd] at cW
  clear h hb hS
  go_enter Try.func11,Try.ntmps11
  go_wp2_with (go_at_call 36;refine cW.out.mono ?_;clear cW;rintro _ w1 ⟨rfl,hw1⟩;obtain rfl:=hw1.symm)
  go_ret
  rw [HE.out]
  exact ⟨rfl,HH.out.fq (Kept.refl _ _) (fun k hk=>.inl hk)⟩
 rw [hdd] at cW
 have cN:=hide (isNameF_call w n)
 cases hnn:nameF n
 ·have HE:Hid (appF n B d=(d,1)):=by show _=_;unfold appF;rw [hdd,hnn];rfl
  rw [hnn] at cN
  clear h hb hS
  go_enter Try.func11,Try.ntmps11
  go_wp2_with (first | (go_at_call 36;refine cW.out.mono ?_;clear cW;rintro _ w1 ⟨rfl,hw1⟩;obtain rfl:=hw1.symm) | (go_at_call 37;refine cN.out.mono ?_;clear cN;rintro _ w1 ⟨rfl,hw1⟩;obtain rfl:=hw1.symm))
  go_ret
  rw [HE.out]
  exact ⟨rfl,HH.out.fq (Kept.refl _ _) (fun k hk=>.inl hk)⟩
 rw [hnn] at cN
 obtain ⟨i,hfi⟩:=apL_find n d.L
 have HE:=hide (appF_ok (b:=B) hdd hnn hfi)
 have HNL:=hide hn
 have HBN:=hide hbn
 have hbd3:∀ x∈apL n d.L,x.b.length≤10000000000:=apL_b hb.b
 have HQ2:Hid ((stepF ⟨updF (apL n d.L) i (fun x=>⟨x.n,x.b++B,x.l⟩),d.s,d.f,d.d⟩).2=(stepF d).2):=by show _=_;unfold stepF;simp only;split <;> (try rfl);split <;> rfl
 have HQ1:Hid ((⟨updF (apL n d.L) i (fun x=>⟨x.n,x.b++B,x.l⟩),(stepF d).1.s,(stepF d).1.f,(stepF d).1.d⟩:Dk)=(stepF ⟨updF (apL n d.L) i (fun x=>⟨x.n,x.b++B,x.l⟩),d.s,d.f,d.d⟩).1):=by show _=_;unfold stepF;simp only;split <;> (try rfl);split <;> rfl
 have HSS:=hide hb.s
 have HFF:=hide hb.f
 have HXl:Hid (X.length≤1000000000):=by show _≤_;rw [h.len];have:=hb.n;omega
 have c0:=h.h.cell 0 rfl
 have hl:=h.looks hn w h.m
 have HS:=hide hS
 obtain ⟨d3,hd3⟩:∃ d3:Dk,d3=⟨apL n d.L,d.s,d.f,d.d⟩:=⟨_,rfl⟩
 have HD3:=hide hd3
 have HFI:Hid (findF n d3.L=some i):=by rw [hd3];exact hfi
 have HBD:Hid (∀ x∈d3.L,x.b.length≤10000000000):=by rw [hd3];exact hbd3
 rw [show (⟨updF (apL n d.L) i (fun x=>⟨x.n,x.b++B,x.l⟩),d.s,d.f,d.d⟩:Dk)=⟨updF d3.L i (fun x=>⟨x.n,x.b++B,x.l⟩),d3.s,d3.f,d3.d⟩ from by rw [hd3]] at HQ1 HQ2
 rw [show d.s=d3.s from by rw [hd3]] at HSS
 rw [show d.f=d3.f from by rw [hd3]] at HFF
 cases hF:findF n d.L with
 | none =>
   have HFN:=hide hF
   rw [hF] at hl
   unfold plP at hl
   simp only at hl
   have HSx:Hid (∀ w9,Kept [] w w9→w9.cell? ⟨p,0,none⟩=some (.map (some mb))):=fun w9 k=>k.cell c0 (by simp)
   have hs0:w.cell? ⟨p,0,none⟩=some (.map (some mb)):=c0
   have hcl:=fun w9=>cloneF_call n w9 hn
   have cC:=hide hcl
   have HUP:Hid (∀ (wz w':World) (g m:Nat),Kept [] w wz→Bx wz g 61 [.slice none 0 0,.int .i64 0]→w.heap.size≤g→w'.ownsMap Try.prog 9 ptR mb m ((nmD (X.map Pm.p)).put (.string n) (.lit (.int .i64 g)))→wz.grownBy w' (some mb)→UpP w O p mb q d3 w'∧Sl w' bo bn bc B):=fun wz w' g m k1 k2 k3 k4 k5=>by
    obtain ⟨r1,r2⟩:=h.fresh k1 k2 k3 hn hF k4 k5
    rw [hd3]
    exact ⟨r1,Sl.kept' r2 hS (fun h0 k hk=>by simp;exact sl_map hS h.m h0 k hk)⟩
   clear h hb hS hF hfi hbd3 hd3 hdd hnn hcl hn hbn c0
   go_enter Try.func11,Try.ntmps11
   go_upto_region 7 with (first | (go_at_call 36;refine cW.out.mono ?_;clear cW;rintro _ w1 ⟨rfl,hw1⟩;obtain rfl:=hw1.symm) | (go_at_call 37;refine cN.out.mono ?_;clear cN;rintro _ w1 ⟨rfl,hw1⟩;obtain rfl:=hw1.symm))
   refine wp_region_held_drew (S:=fun w9=>w9.cell? ⟨p,0,none⟩=some (.map (some mb))) (by kernel_rfl) hs0 (fun hHeld=>?_)
   try simp only [List.append_eq,List.cons_append,List.nil_append]
   refine tks [0,1,2,3,4,6] (by rfl) (by kernel_rfl) (fun _ _ _ _ _ h=>h) hHeld ?_
   iterate 6
    refine yk ?_ rfl (Or.inl ⟨by rfl,?_⟩) ?_
    rotate_left
    ·intro w9 hSw;have m0:=hSw;go_simp;(try with_reducible rfl)
    try simp only [sT,Act.put]
   refine yk0 ?_
   simp only [setK,sT]
   refine wpAnyH_ready (rs:=[5,7]) (by kernel_rfl) (by simp) (AllReadyH.cons rfl (fun K0 hK0=>?_) (AllReadyH.cons rfl (fun K0 hK0=>?_) AllReadyH.nil))
   ·go_simp
    refine (cC.out _).mono ?_
    rintro _ w3 ⟨rfl,hk3⟩
    have hK3:Kept [] w w3:=(Kept.refl [] w).drew.trans hk3 (by simp)
    have HKy:=hide hK3
    have hs3:=HSx.out w3 hK3
    clear hk3 hK3 hHeld
    go_wp2_with fail
    refine hK0.out _ _ hs3 (fun hHeld=>?_)
    clear hK0 K0 hs3
    try simp only [sT,Act.put]
    refine rd1 7 (by kernel_rfl) rfl (fun K0 hK0=>?_)
    go_simp
    have HKz:Hid (Kept [] w (w3.alloc (.cells #[.slice none 0 0,.int .i64 0] 61))):=HKy.out.alloc _
    have HBz:Hid (Bx (w3.alloc (.cells #[.slice none 0 0,.int .i64 0] 61)) w3.heap.size 61 [.slice none 0 0,.int .i64 0]):=Bx.new w3 _ _
    have HGz:Hid (w.heap.size≤w3.heap.size):=HKy.out.size
    refine hK0.out _ _ (HSx.out _ HKz.out) (fun hHeld=>?_)
    clear hK0 K0
    try simp only [sT,Act.put]
    refine rd1 8 (by kernel_rfl) rfl (fun K0 hK0=>?_)
    rw [if_pos (by rfl)]
    refine op_mapF _ _ _ rfl mb _ _ (map_keptF HKz.out HH.out.m (by simp)) HXl.out rfl n HNL.out rfl w3.heap.size rfl ?_
    intro w4 hm4 hg4
    obtain ⟨hu,hs4⟩:=HUP.out _ _ _ _ HKz.out HBz.out HGz.out hm4 hg4
    obtain ⟨O3,X3,h3,hk3,hn3⟩:=hu
    have H3:=hide h3
    have HK3:=hide hk3
    have HN3:=hide hn3
    have HS3:=hide hs4
    clear hm4 hg4 h3 hk3 hn3 hs4 hHeld hl hs0
    refine hK0.out _ _ (H3.out.h.cell 0 rfl) (fun hHeld=>?_)
    clear hK0 K0 hHeld
    try simp only [sT,Act.put]
    refine wpAnyH_done (by kernel_rfl) ?_ _
    obtain ⟨g3,hp3,hcp⟩:=H3.out.app HFI.out bo bn bc B HS3.out HBN.out HBD.out
    have c0:=H3.out.h.cell 0 rfl
    have hl:=H3.out.looks HNL.out w4 H3.out.m
    rw [HFI.out,hp3] at hl
    have cP:=hide hcp
    clear hcp hp3
    go_wp2_with (first
     | (go_at_call 39;refine cP.out.mono ?_;clear cP;rintro _ w5 ⟨rfl,O5,X5,h5,hk5,hn5⟩;have H5:=hide h5;have HK5:=hide hk5;have HN5:=hide hn5;clear h5 hk5 hn5)
     | (go_at_call 40;refine (stpF_call H5.out HSS.out HFF.out).mono ?_;rintro _ w6 ⟨rfl,⟨q6,h6⟩,hk6⟩;have H6:=hide h6;have HK6:=hide hk6;clear h6 hk6))
    go_ret
    rw [HE.out]
    refine ⟨by rw [← HQ2.out];rfl,FqP.trans HK3.out HN3.out (FqP.trans HK5.out HN5.out ?_)⟩
    rw [HQ1.out]
    exact H6.out.fq (HK6.out.mono (by simp [H5.out.pO])) (fun k hk=>.inl hk)
   ·go_simp
    have HKy:Hid (Kept [] w (w.drew.alloc (.cells #[.slice none 0 0,.int .i64 0] 61))):=(Kept.refl [] w).drew.alloc _
    have HBy:Hid (Bx (w.drew.alloc (.cells #[.slice none 0 0,.int .i64 0] 61)) w.heap.size 61 [.slice none 0 0,.int .i64 0]):=Bx.new w.drew _ _
    refine hK0.out _ _ (HSx.out _ HKy.out) (fun hHeld=>?_)
    clear hK0 K0
    try simp only [sT,Act.put]
    refine rd1 5 (by kernel_rfl) rfl (fun K0 hK0=>?_)
    go_simp
    refine (cC.out _).mono ?_
    rintro _ w3 ⟨rfl,hk3⟩
    have HKz:Hid (Kept [] w w3):=HKy.out.trans hk3 (by simp)
    have HBz:Hid (Bx w3 w.heap.size 61 [.slice none 0 0,.int .i64 0]):=HBy.out.kept hk3 (by simp)
    have HGz:Hid (w.heap.size≤w.heap.size):=Nat.le_refl _
    have hs3:=HSx.out w3 HKz.out
    clear hk3 hHeld
    go_wp2_with fail
    refine hK0.out _ _ hs3 (fun hHeld=>?_)
    clear hK0 K0 hs3
    try simp only [sT,Act.put]
    refine rd1 8 (by kernel_rfl) rfl (fun K0 hK0=>?_)
    rw [if_pos (by rfl)]
    refine op_mapF _ _ _ rfl mb _ _ (map_keptF HKz.out HH.out.m (by simp)) HXl.out rfl n HNL.out rfl w.heap.size rfl ?_
    intro w4 hm4 hg4
    obtain ⟨hu,hs4⟩:=HUP.out _ _ _ _ HKz.out HBz.out HGz.out hm4 hg4
    obtain ⟨O3,X3,h3,hk3,hn3⟩:=hu
    have H3:=hide h3
    have HK3:=hide hk3
    have HN3:=hide hn3
    have HS3:=hide hs4
    clear hm4 hg4 h3 hk3 hn3 hs4 hHeld hl hs0
    refine hK0.out _ _ (H3.out.h.cell 0 rfl) (fun hHeld=>?_)
    clear hK0 K0 hHeld
    try simp only [sT,Act.put]
    refine wpAnyH_done (by kernel_rfl) ?_ _
    obtain ⟨g3,hp3,hcp⟩:=H3.out.app HFI.out bo bn bc B HS3.out HBN.out HBD.out
    have c0:=H3.out.h.cell 0 rfl
    have hl:=H3.out.looks HNL.out w4 H3.out.m
    rw [HFI.out,hp3] at hl
    have cP:=hide hcp
    clear hcp hp3
    go_wp2_with (first
     | (go_at_call 39;refine cP.out.mono ?_;clear cP;rintro _ w5 ⟨rfl,O5,X5,h5,hk5,hn5⟩;have H5:=hide h5;have HK5:=hide hk5;have HN5:=hide hn5;clear h5 hk5 hn5)
     | (go_at_call 40;refine (stpF_call H5.out HSS.out HFF.out).mono ?_;rintro _ w6 ⟨rfl,⟨q6,h6⟩,hk6⟩;have H6:=hide h6;have HK6:=hide hk6;clear h6 hk6))
    go_ret
    rw [HE.out]
    refine ⟨by rw [← HQ2.out];rfl,FqP.trans HK3.out HN3.out (FqP.trans HK5.out HN5.out ?_)⟩
    rw [HQ1.out]
    exact H6.out.fq (HK6.out.mono (by simp [H5.out.pO])) (fun k hk=>.inl hk)
 | some j =>
   obtain ⟨g0,hp0,_⟩:=h.app hF bo bn bc B hS hbn hb.b
   rw [hF,hp0] at hl
   have he3:d3=d:=by rw [hd3];unfold apL;rw [if_neg (by rw [hF];simp)]
   have H3:Hid (AtP w O p mb q d3 X):=by rw [he3];exact h
   have HK3:Hid (Kept O w w):=Kept.refl _ _
   have HN3:Hid (∀ k∈O,k∈O∨w.heap.size≤k):=fun k hk=>.inl hk
   have HS3:=HS
   clear h hb hS hF hfi hbd3 hd3 hdd hnn hn hbn he3 hp0
   go_enter Try.func11,Try.ntmps11
   go_upto_region 8 with (first | (go_at_call 36;refine cW.out.mono ?_;clear cW;rintro _ w1 ⟨rfl,hw1⟩;obtain rfl:=hw1.symm) | (go_at_call 37;refine cN.out.mono ?_;clear cN;rintro _ w1 ⟨rfl,hw1⟩;obtain rfl:=hw1.symm))
   clear hl c0
   obtain ⟨g3,hp3,hcp⟩:=H3.out.app HFI.out bo bn bc B HS3.out HBN.out HBD.out
   have c0:=H3.out.h.cell 0 rfl
   have hl:=H3.out.looks HNL.out w H3.out.m
   rw [HFI.out,hp3] at hl
   have cP:=hide hcp
   clear hcp hp3
   go_wp2_with (first
    | (go_at_call 39;refine cP.out.mono ?_;clear cP;rintro _ w5 ⟨rfl,O5,X5,h5,hk5,hn5⟩;have H5:=hide h5;have HK5:=hide hk5;have HN5:=hide hn5;clear h5 hk5 hn5)
    | (go_at_call 40;refine (stpF_call H5.out HSS.out HFF.out).mono ?_;rintro _ w6 ⟨rfl,⟨q6,h6⟩,hk6⟩;have H6:=hide h6;have HK6:=hide hk6;clear h6 hk6))
   go_ret
   rw [HE.out]
   refine ⟨by rw [← HQ2.out];rfl,FqP.trans HK3.out HN3.out (FqP.trans HK5.out HN5.out ?_)⟩
   rw [HQ1.out]
   exact H6.out.fq (HK6.out.mono (by simp [H5.out.pO])) (fun k hk=>.inl hk)
end
end Go.Proofs.Yteiagkjhmhllnaa
