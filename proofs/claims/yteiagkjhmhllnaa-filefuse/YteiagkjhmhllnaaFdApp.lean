/-
  The document's disk: Append.
-/
import Derived.Test.YteiagkjhmhllnaaRegG
import Derived.Test.YteiagkjhmhllnaaFdUpd
namespace Go.Proofs.Yteiagkjhmhllnaa
open Go.RowKit
structure BdD (d:Dk):Prop where
 s:0≤d.s∧d.s≤1000000000000
 f:-1≤d.f∧d.f < 9223372036854775808
 n:d.L.length≤10000000
 b:∀ x∈d.L,x.b.length≤10000000000
 l:∀ x∈d.L,x.l≤x.b.length
theorem Fm.sl {w:World}{y:Fm}(h:Own w y.v y.b):Sl w y.ao y.b.length y.c y.b:=by
 obtain ⟨ao,n,c,h1,h2,_⟩:=own_sl h
 unfold Fm.v at h1
 simp only [Value.slice.injEq] at h1
 obtain ⟨rfl,rfl,rfl⟩:=h1
 exact h2
theorem FdP.trans {p:Nat}{w w1 w2:World}{O O1:List Nat}{d:Dk}(k:Kept O w w1) (hn:∀ k∈O1,k∈O∨w.heap.size≤k) (h:FdP p w1 O1 d w2):FdP p w O d w2:=by
 obtain ⟨O2,h1,h2,h3⟩:=h
 exact ⟨O2,h1,k.trans h2 hn,fun q hq=>by
  rcases h3 q hq with h4 | h4
  ·exact hn q h4
  ·exact .inr (Nat.le_trans k.size h4)⟩
theorem AtD.p {w:World}{O:List Nat}{p:Nat}{d:Dk}{v:Value}{X:List Fm}(h:AtD w O p d v X) {w0:World}{O0:List Nat}(k:Kept O0 w0 w) (hn:∀ k∈O,k∈O0∨w0.heap.size≤k):FdP p w0 O0 d w:=⟨O,⟨v,X,h⟩,k,hn⟩
theorem stepF_L (d:Dk):(stepF d).1.L=d.L:=by
 unfold stepF
 split
 ·rfl
 ·split <;> rfl
theorem inF_mem (n:List UInt8) (L:List Fl):∃ i,findF n (inF ⟨n,[],0⟩ L)=some i :=
 findF_mem ⟨⟨n,[],0⟩,by unfold inF;simp,rfl⟩
theorem inF_length (x:Fl) (L:List Fl):(inF x L).length=L.length+1:=by
 unfold inF
 simp
 omega
theorem inF_sub {x y:Fl}{L:List Fl}(h:y∈inF x L):y=x∨y∈L:=by
 unfold inF at h
 rcases List.mem_append.1 h with h | h
 ·exact .inr (List.mem_of_mem_take h)
 ·rcases List.mem_cons.1 h with h | h
  ·exact .inl h
  ·exact .inr (List.mem_of_mem_drop h)
def apL (n:List UInt8) (L:List Fl):List Fl:=if findF n L=none then inF ⟨n,[],0⟩ L else L
theorem apL_find (n:List UInt8) (L:List Fl):∃ i,findF n (apL n L)=some i:=by
 unfold apL
 cases e:findF n L with
 | none=>rw [if_pos rfl];exact inF_mem n L
 | some i=>rw [if_neg (by simp)];exact ⟨i,e⟩
theorem apL_len (n:List UInt8) (L:List Fl):(apL n L).length≤L.length+1:=by
 unfold apL
 split
 ·rw [inF_length];omega
 ·omega
theorem apL_b {n:List UInt8}{L:List Fl}{m:Nat}(h:∀ x∈L,x.b.length≤m):∀ x∈apL n L,x.b.length≤m:=by
 intro x hx
 unfold apL at hx
 split at hx
 ·rcases inF_sub hx with rfl | hx
  ·simp
  ·exact h x hx
 ·exact h x hx
theorem appF_ok {n:List UInt8}{b:List Int}{d:Dk}(hd:d.d=false) (hn:nameF n=true) {i:Nat}(hi:findF n (apL n d.L)=some i) :
 appF n b d=(⟨updF (apL n d.L) i (fun x=>⟨x.n,x.b++b,x.l⟩),(stepF d).1.s,(stepF d).1.f,(stepF d).1.d⟩,resF (stepF d).2):=by
 unfold appF
 rw [hd,hn]
 simp only [Bool.false_eq_true,if_false,Bool.true_eq_false,stepF_L]
 have e:(if findF n d.L=none then inF ⟨n,[],0⟩ d.L else d.L)=apL n d.L:=rfl
 rw [e,hi]
theorem InP.at {w w':World}{O:List Nat}{p:Nat}{d:Dk}{v:Value}{X:List Fm}{x:Fm}(hI:InP p w d X x w') (h:AtD w O p d v X):∃ O',AtF w' O' p ⟨inF x.fl d.L,d.s,d.f,d.d⟩∧Kept [p] w w'∧∀ k∈O',k∈O∨x.v.ownBlock=some k∨w.heap.size≤k:=by
 obtain ⟨v',h1,h2,h3⟩:=hI
 refine ⟨_,⟨_,_,h1⟩,h2,fun k hk=>?_⟩
 obtain ⟨_,hb⟩:=h.blk
 rcases List.mem_cons.1 hk with rfl | hk
 ·exact .inl h.pO
 ·rcases List.mem_append.1 hk with hk | hk
  ·exact .inr (.inr (h3 k (by simpa using hk)))
  ·obtain ⟨y,hy,hq⟩:=List.mem_flatMap.1 hk
   have hm:y∈X→k∈O:=fun hy=>(hb k (List.mem_flatMap.2 ⟨y,hy,hq⟩)).2
   rcases List.mem_append.1 hy with hy | hy
   ·exact .inl (hm (List.mem_of_mem_take hy))
   ·rcases List.mem_cons.1 hy with rfl | hy
    ·exact .inr (.inl (by simpa using hq))
    ·exact .inl (hm (List.mem_of_mem_drop hy))
set_option linter.unusedSimpArgs false in
set_option maxHeartbeats 8000000 in
set_option maxRecDepth 100000 in
theorem dappF_call {w:World}{O:List Nat}{p:Nat}{d:Dk}{v:Value}{X:List Fm}(h:AtD w O p d v X) (hb:BdD d) (n:List UInt8) (bo:Option Addr) (bn bc:Nat) (b:List Int) (hs:Sl w bo bn bc b) (hbn:bn≤10000000000) (hd:0 < bn→∀ k∈blk bo,k ∉ O) :
 Calls Try.prog 18 #[.pointer (some ⟨p,0,none⟩),.string (str n),.slice bo bn bc] w fun e w'=>e=.returned (.int .i64 (appF n b d).2)∧FdP p w O (appF n b d).1 w':=by
 have HH:=hide h
 have hB:=h.h
 have c3:=hB.cell 3 rfl
 cases hdd:d.d
 rotate_left
 ·have HE:Hid (appF n b d=(d,7)):=by show _=_;unfold appF;rw [hdd];rfl
  rw [hdd] at c3
  clear h hB hs hd hdd
  go_enter Try.func18,Try.ntmps18
  go_wp2_with fail
  go_ret
  rw [HE.out]
  exact ⟨rfl,HH.out.p (Kept.refl _ _) (fun k hk=>.inl hk)⟩
 rw [hdd] at c3
 cases hnn:nameF n
 ·have HE:Hid (appF n b d=(d,1)):=by show _=_;unfold appF;rw [hdd,hnn];rfl
  have cN:=hide (dnameF_call w n)
  rw [hnn] at cN
  clear h hB hs hd hdd hnn
  go_enter Try.func18,Try.ntmps18
  go_wp2_with (go_at_call 47;refine cN.out.mono ?_;clear cN;rintro _ w1 ⟨rfl,hw1⟩;obtain rfl:=hw1.symm)
  go_ret
  rw [HE.out]
  exact ⟨rfl,HH.out.p (Kept.refl _ _) (fun k hk=>.inl hk)⟩
 obtain ⟨i,hfi⟩:=apL_find n d.L
 have HE:=hide (appF_ok (b:=b) hdd hnn hfi)
 have cN:=hide (dnameF_call w n)
 rw [hnn] at cN
 have cS:=hide (dstepF_call h hb.s hb.f)
 obtain ⟨q,hq⟩:∃ q,q=stepF d:=⟨_,rfl⟩
 have hqL:q.1.L=d.L:=by rw [hq];exact stepF_L d
 rw [← hq] at cS HE
 obtain ⟨d3,hd3⟩:∃ d3:Dk,d3=⟨apL n d.L,q.1.s,q.1.f,q.1.d⟩:=⟨_,rfl⟩
 have HD3:=hide hd3
 have HFI:Hid (findF n d3.L=some i):=by rw [hd3];exact hfi
 have HN3:Hid (d3.L.length≤10000001):=by show d3.L.length≤_;rw [hd3];have:=apL_len n d.L;have:=hb.n;show (apL n d.L).length≤_;omega
 have HB3:Hid (∀ x∈d3.L,x.b.length≤10000000000):=by show ∀ x∈d3.L,_;rw [hd3];exact apL_b hb.b
 have HQL:=hide hqL
 have HN:Hid (d.L.length≤1000000000):=by show _≤_;have:=hb.n;omega
 have HXl:Hid (X.length≤10000000):=by show _≤_;rw [h.len];exact hb.n
 have HQ3:Hid (∀ l1,l1=apL n d.L→(⟨l1,q.1.s,q.1.f,q.1.d⟩:Dk)=d3):=fun l1 e=>by rw [e,hd3]
 have HS:=hide hs
 have HSD:=hide hd
 have HOlt:=hide h.lt
 have HPO:=hide h.pO
 clear h hB hs hd hdd hnn hfi hq hqL hd3
 go_enter Try.func18,Try.ntmps18
 go_upto_region 5 with (go_at_call 47;refine cN.out.mono ?_;clear cN;rintro _ w1 ⟨rfl,hw1⟩;obtain rfl:=hw1.symm)
 go_upto_region 6 with (go_at_call 48;refine cS.out.mono ?_;clear cS;rintro _ w1 ⟨rfl,h1,hk1⟩;have H1:=hide h1;have HK1:=hide hk1;clear h1 hk1)
 go_upto_if 21 with (go_at_call 49;refine (dfindF_call H1.out (by rw [HQL.out];exact HN.out) n).mono ?_;rintro _ w2 ⟨rfl,hw2⟩;obtain rfl:=hw2.symm)
 go_cut [] from 9 (fun wx=>Hid (FdP p w O d3 wx))
 case first =>
  cases hF:findF n q.1.L with
  | none =>
    have cI:=dinF_call H1.out (by have:=HXl.out;omega) ⟨n,[],0,none,0⟩ (World.ownsRow_nil _ _ _ _) (by intro k hk;cases hk)
    have HE1:Hid (d3=⟨inF ⟨n,[],0⟩ q.1.L,q.1.s,q.1.f,q.1.d⟩):=by show d3=_;rw [HD3.out];unfold apL;rw [← HQL.out,if_pos hF]
    unfold foC Fm.v at cI
    have CI:=hide cI
    clear cI hF
    simp only [plF]
    go_wp2_with (go_at_call 50;refine CI.out.mono ?_;clear CI;rintro _ w3 ⟨rfl,hI⟩;have HI:=hide hI;clear hI)
    go_meet
    exact (show FdP p w O d3 _ by
     obtain ⟨O3,h3,hk3,hn3⟩:=HI.out.at H1.out
     rw [HE1.out]
     exact ⟨O3,h3,(HK1.out.mono (by simp [HPO.out])).trans hk3 (by simp [HPO.out]),fun k hk=>by
      rcases hn3 k hk with h4 | h4 | h4
      ·exact .inl h4
      ·cases h4
      ·exact .inr (Nat.le_trans HK1.out.size h4)⟩)
  | some j =>
    have HE1:Hid (d3=q.1):=by
     show d3=_
     rw [HD3.out];unfold apL
     rw [← HQL.out,if_neg (by rw [hF];simp)]
    clear hF
    simp only [plF]
    have hj:¬ (j:Int) < 0:=by omega
    go_wp2_with fail
    go_meet
    exact (show FdP p w O d3 _ by
     rw [HE1.out]
     exact H1.out.p (HK1.out.mono (by simp [HPO.out])) (fun k hk=>.inl hk))
 obtain ⟨O3,⟨v3,X3,h3⟩,hk3,hn3⟩:=hcut.out
 have cF:=hide (dfindF_call h3 (by have:=HN3.out;omega) n)
 rw [HFI.out] at cF
 obtain ⟨hiL,_⟩:=findF_lt HFI.out
 have hiX:i < X3.length:=by rw [h3.len];exact hiL
 obtain ⟨ao,c,hv,hc,hm,_,hat⟩:=Rk.shape h3.r
 subst hv
 unfold maxLen at hm
 obtain ⟨g,he,hel⟩:=hat i hiX
 subst he
 have hX3l:X3.length≤10000001:=by rw [h3.len];exact HN3.out
 have hii:(i:Int) < X3.length:=by omega
 have c0:=h3.h.cell 0 rfl
 have H3:=hide h3
 have HK3:=hide hk3
 have HN3':=hide hn3
 have hob:=h3.o X3[i] (List.getElem_mem hiX)
 have hyl:X3[i].b.length≤10000000000:=by
  have:=HB3.out d3.L[i] (List.getElem_mem hiL)
  rw [h3.get hiX hiL] at this
  exact this
 have e1:wc.cell? ⟨g,i*3+1,none⟩=some (.slice X3[i].ao X3[i].b.length X3[i].c):=hel 1 _ rfl
 have HSB:=hide (fun w1 d' (k:Kept [] wc w1) (y:Fm)=>h3.setB (d':=d') k i hiX y)
 have HYe:Hid (∀ bb ao' c',(d3.L.set i ⟨X3[i].n,bb,X3[i].l⟩=updF d3.L i (fun x=>⟨x.n,bb,x.l⟩))∧(⟨X3[i].n,bb,X3[i].l,ao',c'⟩:Fm).n=X3[i].n):=fun bb ao' c'=>⟨by rw [updF_at d3.L i hiL,h3.get hiX hiL];rfl,rfl⟩
 have HUP:Hid (updF d3.L i (fun x=>⟨x.n,X3[i].b++b,x.l⟩)=updF d3.L i (fun x=>⟨x.n,x.b++b,x.l⟩)):=by
  show _=_
  rw [updF_at d3.L i hiL,updF_at d3.L i hiL,h3.get hiX hiL];rfl
 have cC:=hide (fun (W:World) (k:Kept [] wc W)=>copy_call W _ _ _ _ (Sl.kept k (Fm.sl hob) (by simp)) (by omega))
 have hSb:=hide (Sl.kept' hk3 HS.out HSD.out)
 obtain ⟨y,hy⟩:∃ y,y=X3[i]:=⟨_,rfl⟩
 rw [← hy] at hyl e1 hob HSB HYe HUP cC
 have hon:Own wc y.v y.b:=hob
 clear h3 hk3 hn3 hat hel hob hy hcut
 go_upto_region 9 with (go_at_call 49;refine cF.out.mono ?_;clear cF;rintro _ w2 ⟨rfl,hw2⟩;obtain rfl:=hw2.symm;simp only [plF])
 have HKd:Hid (Kept [] wc wc.drew):=(Kept.refl [] wc).drew
 refine wp_region_held_drew (S:=fun w9=>w9.cell? ⟨p,0,none⟩=some (.slice (some ⟨g,0,none⟩) X3.length c)) (by kernel_rfl) c0 (fun hHeld=>?_)
 refine tks [0,1,2,3,4,5,6,7,8,9,10,11,14] (by rfl) (by kernel_rfl) (fun _ _ _ _ _ h=>h) hHeld ?_
 iterate 13
  refine yk ?_ rfl (Or.inl ⟨by rfl,?_⟩) ?_
  rotate_left
  ·intro w9 hSw;have m0:=hSw;go_simp;(try with_reducible rfl)
  try simp only [sT,Act.put]
 refine yk0 ?_
 simp only [setK,sT]
 refine rd1 12 (by kernel_rfl) rfl (fun K0 hK0=>?_)
 have e1d:=HKd.out.cell e1 (by simp)
 go_simp
 refine hK0.out _ _ (HKd.out.cell c0 (by simp)) (fun hHeld=>?_)
 clear hK0 K0 e1d
 try simp only [sT,Act.put]
 refine rd1 13 (by kernel_rfl) rfl (fun K0 hK0=>?_)
 go_simp
 refine (cC.out _ HKd.out).mono ?_
 clear cC
 rintro _ w4 ⟨v4,rfl,hO4,hf4,hk4⟩
 have HO4:=hide hO4
 have hK4:Kept [] wc w4:=HKd.out.trans hk4 (by simp)
 have HK4:=hide hK4
 have HF4:Hid (∀ k,v4.ownBlock=some k→wc.heap.size≤k):=hf4
 have c04:=hK4.cell c0 (by simp)
 have e14:=hK4.cell e1 (by simp)
 have HS4:=hide (Sl.kept hK4 hSb.out (by simp))
 clear hO4 hf4 hk4 hK4 hHeld
 go_wp2_with fail
 refine hK0.out _ _ c04 (fun hHeld=>?_)
 clear hK0 K0
 try simp only [sT,Act.put]
 refine rd1 15 (by kernel_rfl) rfl (fun K0 hK0=>?_)
 rw [if_pos (by rfl)]
 refine op_appB _ _ rfl v4 y.b rfl HO4.out bo bn bc b rfl HS4.out (by omega) ?_
 intro v5 w5 hO5 hf5 hk5
 have hK5:Kept [] wc w5:=HK4.out.trans hk5 (fun k hk=>.inr (HF4.out k (by simpa using hk)))
 have hF5:∀ k,v5.ownBlock=some k→wc.heap.size≤k:=fun k hk=>by
  rcases hf5 k hk with h1 | h1
  ·exact HF4.out k h1
  ·have:=HK4.out.size;omega
 obtain ⟨a5,n5,k5,rfl,hs5,_⟩:=own_sl hO5
 obtain rfl:=hs5.1
 obtain ⟨d5,hd5⟩:∃ d5:Dk,d5=⟨updF d3.L i (fun x=>⟨x.n,y.b++b,x.l⟩),d3.s,d3.f,d3.d⟩:=⟨_,rfl⟩
 have HFIN:Hid (FdP p wc O3 d5 (w5.setCell ⟨g,i*3+1,none⟩ (.slice a5 (y.b++b).length k5))):=HSB.out w5 d5 hK5 ⟨y.n,y.b++b,y.l,a5,k5⟩ rfl rfl hO5 hF5 (by rw [hd5]) (by rw [hd5]) (by rw [hd5]) (by rw [hd5])
 have HD5:=hide hd5
 have c05:=hK5.cell c0 (by simp)
 have e15:=hK5.cell e1 (by simp)
 have hro:=Rk.kept H3.out.r hK5 (by simp)
 have z5:w5.frozen? ⟨g,i*3+1,none⟩=false:=World.ownsRow.frozenAt hro _
 have hgp:g≠p:=(H3.out.apart (g:=g) rfl).2.1
 clear hO5 hf5 hk5 hF5 hs5 hd5 hro hHeld HSB HYe
 refine hK0.out _ _ c05 (fun hHeld=>?_)
 clear hK0 K0
 try simp only [sT,Act.put]
 refine tks [16,17] (by rfl) (by kernel_rfl) (fun _ _ _ _ _ h=>h) hHeld ?_
 iterate 2
  refine yk ?_ rfl (Or.inl ⟨by rfl,?_⟩) ?_
  rotate_left
  ·intro w9 hSw;have m0:=hSw;go_simp;(try with_reducible rfl)
  try simp only [sT,Act.put]
 refine yk0 ?_
 simp only [setK,sT]
 refine rd1 18 (by kernel_rfl) rfl (fun K0 hK0=>?_)
 go_simp
 have hk6:Kept [g] w5 (w5.setCell ⟨g,i*3+1,none⟩ (.slice a5 (y.b++b).length k5)):=(Kept.refl _ _).setCell (by simp) _
 have c06:=hk6.cell c05 (by simp;omega)
 refine hK0.out _ _ (by simpa using c06) (fun hHeld=>?_)
 clear hK0 K0 hk6 c06
 try simp only [sT,Act.put]
 refine wpAnyH_done (by kernel_rfl) ?_ _
 clear hHeld
 rw [List.length_append] at HFIN
 generalize w5.setCell ⟨g,i*3+1,none⟩ (.slice a5 (y.b.length+b.length) k5)=w6 at HFIN ⊢
 go_wp2_with (go_at_call 51;refine (dresF_call w6 q.2).mono ?_;rintro _ w7 ⟨rfl,hw7⟩;obtain rfl:=hw7.symm)
 go_ret
 rw [HE.out]
 refine ⟨rfl,?_⟩
 have h9:=FdP.trans HK3.out HN3'.out HFIN.out
 have e9:d5=⟨updF (apL n d.L) i (fun x=>⟨x.n,x.b++b,x.l⟩),q.1.s,q.1.f,q.1.d⟩:=by rw [HD5.out,HUP.out,HD3.out]
 rw [e9] at h9
 exact h9
end Go.Proofs.Yteiagkjhmhllnaa
