/-
  The document's disk: Crash. (Written by mk/mkdcrs.py.)
-/
import Derived.Test.YteiagkjhmhllnaaRegG
import Derived.Test.YteiagkjhmhllnaaFdSyn
import Derived.Test.YteiagkjhmhllnaaInts
namespace Go.Proofs.Yteiagkjhmhllnaa
open Go.RowKit
def keptN (x:Fl) (o:Option Int):Nat:=match o with | some k=>keptF x k | none=>x.l
theorem crsL_snoc (L:List Fl) (x:Fl) (K:List Int):crsL (L++[x]) K=crsL L K++[⟨x.n,x.b.take (keptN x K[L.length]?),keptN x K[L.length]?⟩]:=by
 induction L generalizing K with
 | nil=>cases K <;> rfl
 | cons y L ih =>
   cases K with
   | nil =>
     have h:=ih []
     simp only [List.getElem?_nil] at h
     simp only [List.cons_append,crsL,h,List.getElem?_nil]
   | cons k K =>
     have h:=ih K
     simp only [List.cons_append,crsL,h,List.length_cons,List.getElem?_cons_succ]
theorem crsL_len (L:List Fl) (K:List Int):(crsL L K).length=L.length:=by
 induction L generalizing K with
 | nil=>cases K <;> rfl
 | cons y L ih=>cases K <;> simp [crsL,ih]
theorem AtF.push {w w1:World}{O:List Nat}{b:Nat}{d:Dk}{v v':Value}{X:List Fm}(h:AtD w O b d v X) (k:Kept v.ownBlock.toList w w1) (x:Fm) (hx:Own w1 x.v x.b) (hxf:∀ q,x.v.ownBlock=some q→w.heap.size≤q∧q < w1.heap.size) (hR:rkO.row w1 v' (X++[x])) (hf:∀ q,v'.ownBlock=some q→v.ownBlock=some q∨w.heap.size≤q) (hne:∀ q,x.v.ownBlock=some q→v'.ownBlock≠some q) :
 FdP b w O ⟨d.L++[x.fl],d.s,d.f,d.d⟩ (w1.setCell ⟨b,0,none⟩ v'):=by
 have hbO:=h.pO
 have hvb:b ∉ v.ownBlock.toList:=fun hm=>(h.vO (by simpa using hm)).2 rfl
 have hB:=h.h.kept k hvb
 have hbl:=h.h.lt
 have k2:Kept [b] w1 (w1.setCell ⟨b,0,none⟩ v'):=(Kept.refl _ _).setCell (by simp) _
 obtain ⟨hn,hb⟩:=h.blk
 have hv':∀ q,v'.ownBlock=some q→q≠b:=fun q hq e=>by
  rcases hf q hq with h1 | h1
  ·exact (h.vO h1).2 e
  ·omega
 refine ⟨blD b v' (X++[x]),⟨v',X++[x],hB.set 0 v',Rk.kept hR k2 (fun q hq hm=>by simp at hm;exact hv' q hq hm),fun y hy=>?_,?_,rfl,?_⟩,?_,fun q hq=>?_⟩
 ·rcases List.mem_append.1 hy with hy | hy
  ·refine k2.ownsRow (k.ownsRow (h.o y hy) (fun q hq hm=>?_)) (fun q hq hm=>?_)
   ·exact (h.apart (g:=q) (by simpa using hm)).2.2 y hy hq
   ·simp at hm;exact (hb q (List.mem_flatMap.2 ⟨y,hy,by simp [hq]⟩)).1 hm
  ·simp at hy;subst hy
   exact k2.ownsRow hx (fun q hq hm=>by simp at hm;have:=(hxf q hq).1;omega)
 ·rw [List.map_append,h.L];rfl
 ·unfold blD
  rw [List.flatMap_append,List.flatMap_cons,List.flatMap_nil,List.append_nil]
  refine List.nodup_cons.2 ⟨fun hm=>?_,List.nodup_append.2 ⟨by cases v'.ownBlock <;> simp,List.nodup_append.2 ⟨hn,by cases x.v.ownBlock <;> simp,fun a ha c hc e=>?_⟩,fun a ha c hc e=>?_⟩⟩
  ·rcases List.mem_append.1 hm with hm | hm
   ·exact hv' b (by simpa using hm) rfl
   ·rcases List.mem_append.1 hm with hm | hm
    ·exact (hb b hm).1 rfl
    ·have:=(hxf b (by simpa using hm)).1;omega
  ·subst e
   have h1:=h.lt a (hb a ha).2
   have h2:=(hxf a (by simpa using hc)).1
   omega
  ·subst e
   have ha':v'.ownBlock=some a:=by simpa using ha
   rcases List.mem_append.1 hc with hc | hc
   ·rcases hf a ha' with h1 | h1
    ·obtain ⟨y,hy,hq⟩:=List.mem_flatMap.1 hc
     exact (h.apart h1).2.2 y hy (by simpa using hq)
    ·have:=h.lt a (hb a hc).2;omega
   ·exact hne a (by simpa using hc) ha'
 ·refine (k.mono (fun q hq=>.inl (h.vO (by simpa using hq)).1)).trans k2 (fun q hq=>by simp at hq;subst hq;exact .inl hbO)
 ·rcases List.mem_cons.1 hq with rfl | hq
  ·exact .inl hbO
  ·rcases List.mem_append.1 hq with hq | hq
   ·rcases hf q (by simpa using hq) with h1 | h1
    ·exact .inl (h.vO h1).1
    ·exact .inr h1
   ·rw [List.flatMap_append,List.flatMap_cons,List.flatMap_nil,List.append_nil] at hq
    rcases List.mem_append.1 hq with hq | hq
    ·exact .inl (hb q hq).2
    ·exact .inr (hxf q (by simpa using hq)).1
def CrI (w:World) (X:List Fm) (K:List Int) (iv:Value) (wr:World):Prop :=
 ∃ (i:Nat) (Oi:List Nat),iv=.int .i64 (i:Int)∧i≤X.length∧Hid (AtF wr Oi w.heap.size ⟨crsL ((X.map Fm.fl).take i) K,0,-1,false⟩)∧Hid (Kept [] w wr)∧Hid (∀ k∈Oi,w.heap.size≤k)
set_option linter.unusedSimpArgs false in
set_option maxHeartbeats 8000000 in
set_option maxRecDepth 100000 in
theorem dcrsF_call {w:World}{O:List Nat}{p:Nat}{d:Dk}{v:Value}{X:List Fm}(h:AtD w O p d v X) (hb:BdD d) (ko:Option Addr) (kn kc:Nat) (K:List Int) (hK:SlI w ko kn kc K) :
 Calls Try.prog 30 #[.pointer (some ⟨p,0,none⟩),.slice ko kn kc] w fun e w'=>e=.returned (.pointer (some ⟨w.heap.size,0,none⟩))∧∃ O',AtF w' O' w.heap.size (crsF K d)∧Kept [] w w'∧∀ k∈O',w.heap.size≤k:=by
 have HH:=hide h
 have HK:=hide hK
 have hXl:X.length≤10000000:=by rw [h.len];exact hb.n
 have HBD:=hide hb
 obtain ⟨ao,c,hv,hc,hm,_,hat⟩:=Rk.shape h.r
 subst hv
 unfold maxLen at hm
 have HA:=hide hat
 have HGE:=hide (fun i (hi:i < X.length) (hi':i < d.L.length)=>h.get hi hi')
 have cW:=hide (dnewF_call w)
 have hkm:=hK.2.2.1
 unfold maxLen at hkm
 have hkc:=hK.2.1
 have hkl:=hK.1
 have HF:Hid (crsF K d=⟨crsL ((X.map Fm.fl).take X.length) K,0,-1,false⟩):=by
  show _=_
  unfold crsF
  rw [List.take_of_length_le (by simp),h.L]
 obtain ⟨W0,hW0⟩:∃ W0,W0=w.alloc (.cells #[.slice none 0 0,.int .i64 0,.int .i64 (-1),.bool false] 70):=⟨_,rfl⟩
 have hk0:Kept [] w W0:=by rw [hW0];exact (Kept.refl _ _).alloc _
 have HA0:Hid (AtF W0 [w.heap.size] w.heap.size ⟨crsL ((X.map Fm.fl).take 0) K,0,-1,false⟩):=by
  show AtF _ _ _ _
  rw [hW0]
  exact dnewF_at w
 have HK0:=hide hk0
 rw [← hW0] at cW
 clear h hb hK hW0 hk0 hat
 go_enter Try.func30,Try.ntmps30
 go_upto_region 2 with (go_at_call 17;refine cW.out.mono ?_;clear cW;rintro _ w1 ⟨rfl,hw1⟩;obtain rfl:=hw1.symm)
 go_wp2_with fail
 go_loopw [6,7] (fun iv _ wr=>CrI w X K iv wr) (fun iv _ _=>X.length - (intOf iv).toNat)
 case atStart=>exact ⟨0,[w.heap.size],rfl,Nat.zero_le _,HA0,HK0,fun k hk=>by simp at hk;omega⟩
 case round =>
  obtain ⟨i,Oi,rfl,hi,HAi,HKi,HNi⟩:=hrel
  have c0:=(HH.out.h.kept HKi.out (by simp)).cell 0 rfl
  by_cases hlt:i < X.length
  ·have hlt':(i:Int) < X.length:=by omega
   have hiL:i < d.L.length:=by rw [← HH.out.len];exact hlt
   obtain ⟨g,he,hel⟩:=HA.out i hlt
   subst he
   obtain ⟨y,hy⟩:∃ y,y=X[i]:=⟨_,rfl⟩
   have HEL:Hid (w.rangeAt g (i*3) (foC y)):=by rw [hy];exact hel
   have hLe:d.L[i]=y.fl:=by rw [hy];exact HGE.out i hlt hiL
   have HYO:Hid (Own w y.v y.b):=by rw [hy];exact HH.out.o _ (List.getElem_mem hlt)
   have HYL:Hid (y.b.length≤10000000000):=by show _≤_;have h1:=HBD.out.b d.L[i] (List.getElem_mem hiL);rw [hLe] at h1;exact h1
   have HLL:Hid (y.l≤y.b.length):=by show _≤_;have h1:=HBD.out.l d.L[i] (List.getElem_mem hiL);rw [hLe] at h1;exact h1
   have HN0:Hid (crsL ((X.map Fm.fl).take (i+1)) K=crsL ((X.map Fm.fl).take i) K++[⟨y.n,y.b.take (keptN y.fl K[i]?),keptN y.fl K[i]?⟩]):=by
    show _=_
    rw [List.take_succ_eq_append_getElem (by rw [List.length_map];exact hlt),List.getElem_map,← hy,crsL_snoc,List.length_take,List.length_map,Nat.min_eq_left (by omega)];rfl
   have e2:wr.cell? ⟨g,i*3+2,none⟩=some (.int .i64 y.l):=(range_keptF HEL.out HKi.out (by simp)) 2 _ rfl
   have e1:wr.cell? ⟨g,i*3+1,none⟩=some (.slice y.ao y.b.length y.c):=(range_keptF HEL.out HKi.out (by simp)) 1 _ rfl
   clear hel hy hLe hiL
   by_cases hik:i < kn
   ·have hik':(i:Int) < kn:=by omega
    have hikK:i < K.length:=by rw [hkl];exact hik
    obtain ⟨kb,kof,hke,hkv⟩:=HK.out.2.2.2 i hikK
    subst hke
    have k0:=HKi.out.cell hkv (by simp)
    have hkg:K[i]?=some K[i]:=List.getElem?_eq_getElem hikK
    obtain ⟨z,hz⟩:∃ z,z=K[i]:=⟨_,rfl⟩
    rw [← hz] at k0 hkg
    have HKG:=hide hkg
    clear hkv hz hkg hikK
    by_cases hpos:0 < z
    ·obtain ⟨kk,rfl⟩:∃ kk:Nat,z=kk:=Int.eq_ofNat_of_zero_le (by omega)
     have hyl:=HYL.out
     have hll:=HLL.out
     have hll':(y.l:Int)≤(y.b.length:Int):=by omega
     have HKN:Hid (keptN y.fl K[i]?=y.l+(min (kk:Int) ((y.b.length:Int) - (y.l:Int))).toNat):=by
      show _=_
      rw [HKG.out]
      show keptF y.fl (kk:Int)=_
      unfold keptF
      rw [if_pos hpos];rfl
     by_cases hmn:(y.b.length:Int) - (y.l:Int) < (kk:Int)
     ·obtain ⟨m,hml⟩:∃ m,m=y.b.length:=⟨_,rfl⟩
      have HML:Hid (m≤y.b.length):=by rw [hml];exact Nat.le_refl _
      have HNX:Hid (crsL ((X.map Fm.fl).take (i+1)) K=crsL ((X.map Fm.fl).take i) K++[⟨y.n,y.b.take m,m⟩]):=by
       show _=_
       rw [HN0.out,HKN.out,hml]
       have e:y.l+(min (kk:Int) ((y.b.length:Int) - (y.l:Int))).toNat=y.b.length:=by omega
       rw [e]
      go_upto_region 7 with fail
      refine wp_region_held_drew (S:=fun w9=>w9.cell? ⟨p,0,none⟩=some (.slice (some ⟨g,0,none⟩) X.length c)∧w9.cell? ⟨g,i*3+1,none⟩=some (.slice y.ao y.b.length y.c)∧w9.cell? ⟨kb,kof+i,none⟩=some (.int .i64 kk)) (by kernel_rfl) ⟨c0,e1,k0⟩ (fun hHeld=>?_)
      try simp only [List.append_eq,List.cons_append,List.nil_append]
      refine tks [0,1,2,3,4,5,6,7,8,9,10,11,12,13,14,15,16,17,18] (by rfl) (by kernel_rfl) (fun _ _ _ _ _ h=>h) hHeld ?_
      iterate 19
       refine yk ?_ rfl (Or.inl ⟨by rfl,?_⟩) ?_
       rotate_left
       ·intro w9 hSw;obtain ⟨m0,m1,m2⟩:=hSw;go_simp;(try with_reducible rfl)
       try simp only [sT,Act.put]
      refine yk0 ?_
      simp only [setK,sT]
      refine wpAnyH_done (by kernel_rfl) ?_ _
      clear hHeld
      have hw1:IntKind.i64.wrap ((y.b.length:Int) - (y.l:Int))=(y.b.length:Int) - (y.l:Int):=IntWalk.i64_in _ (by omega)
      have hif:(if IntKind.i64.wrap ((y.b.length:Int) - (y.l:Int)) < (kk:Int) then IntKind.i64.wrap ((y.b.length:Int) - (y.l:Int)) else (kk:Int))=(y.b.length:Int) - (y.l:Int):=by rw [hw1,if_pos hmn]
      have hv:IntKind.i64.wrap ((y.l:Int)+((y.b.length:Int) - (y.l:Int)))=(m:Int):=by
       rw [hml,show (y.l:Int)+((y.b.length:Int) - (y.l:Int))=(y.b.length:Int) by omega]
       exact IntWalk.i64_in _ (by omega)
      rw [hif,hv,hw1]
      clear hif hv hw1 hml hmn k0 e2 e1 c0 hyl hll hll' hpos HKN HN0 hik hik'
      obtain ⟨wb,hwb⟩:∃ wb,wb=wr.drew:=⟨_,rfl⟩
      rw [← hwb]
      have HKb:Hid (Kept [] w wb):=by rw [hwb];exact HKi.out.drew
      obtain ⟨vx,X',h'⟩:AtF wb Oi w.heap.size ⟨crsL ((X.map Fm.fl).take i) K,0,-1,false⟩:=by rw [hwb];exact HAi.out.kept (Kept.refl [] wr).drew (by simp)
      obtain ⟨ax,cx,hvx,_,_,_,_⟩:=Rk.shape h'.r
      subst hvx
      have c0:wb.cell? ⟨p,0,none⟩=some (.slice (some ⟨g,0,none⟩) X.length c):=(HH.out.h.kept HKb.out (by simp)).cell 0 rfl
      have e0:wb.cell? ⟨g,i*3,none⟩=some (.string (str y.n)):=(range_keptF HEL.out HKb.out (by simp)) 0 _ rfl
      have e1:wb.cell? ⟨g,i*3+1,none⟩=some (.slice y.ao y.b.length y.c):=(range_keptF HEL.out HKb.out (by simp)) 1 _ rfl
      have H':=hide h'
      have HR:=hide h'.r
      have HXL:Hid (X'.length≤10000000):=by
       show _≤_
       rw [h'.len]
       show (crsL _ K).length≤_
       rw [crsL_len,List.length_take]
       omega
      have hpw:p < w.heap.size:=HH.out.h.lt
      have hgw:g < w.heap.size:=HH.out.lt g (HH.out.vO rfl).1
      have hvw:∀ q∈(Value.slice ax X'.length cx).ownBlock.toList,w.heap.size≤q:=fun q hq=>HNi.out q (h'.vO (by simpa using hq)).1
      have HSv:Hid (∀ W,Kept (Value.slice ax X'.length cx).ownBlock.toList wb W→W.cell? ⟨p,0,none⟩=some (.slice (some ⟨g,0,none⟩) X.length c)∧W.cell? ⟨g,i*3,none⟩=some (.string (str y.n))∧W.cell? ⟨g,i*3+1,none⟩=some (.slice y.ao y.b.length y.c)):=fun W hk =>
       ⟨hk.cell c0 (fun hm=>by have:=hvw _ hm;simp at this;omega),hk.cell e0 (fun hm=>by have:=hvw _ hm;simp at this;omega),hk.cell e1 (fun hm=>by have:=hvw _ hm;simp at this;omega)⟩
      have HSw:Hid (∀ W,Kept (Value.slice ax X'.length cx).ownBlock.toList wb W→∀ u,(W.setCell ⟨w.heap.size,0,none⟩ u).cell? ⟨p,0,none⟩=some (.slice (some ⟨g,0,none⟩) X.length c)∧(W.setCell ⟨w.heap.size,0,none⟩ u).cell? ⟨g,i*3,none⟩=some (.string (str y.n))∧(W.setCell ⟨w.heap.size,0,none⟩ u).cell? ⟨g,i*3+1,none⟩=some (.slice y.ao y.b.length y.c)):=fun W hk u=>by
       obtain ⟨h1,h2,h3⟩:=HSv.out W hk
       have k9:Kept [w.heap.size] W (W.setCell ⟨w.heap.size,0,none⟩ u):=(Kept.refl _ _).setCell (by simp) _
       exact ⟨k9.cell h1 (by simp;omega),k9.cell h2 (by simp;omega),k9.cell h3 (by simp;omega)⟩
      have HSx:Hid (∀ W,Kept [] wb W→(W.cell? ⟨p,0,none⟩=some (.slice (some ⟨g,0,none⟩) X.length c)∧W.cell? ⟨g,i*3,none⟩=some (.string (str y.n))∧W.cell? ⟨g,i*3+1,none⟩=some (.slice y.ao y.b.length y.c))∧W.cell? ⟨w.heap.size,0,none⟩=some (.slice ax X'.length cx)):=fun W hk=>⟨HSv.out W (hk.mono (by simp)),(h'.h.kept hk (by simp)).cell 0 rfl⟩
      have HKd:Hid (Kept [] wb wb.drew):=(Kept.refl [] wb).drew
      have cC:=hide (fun (W:World) (k:Kept [] wb W)=>copy_call W _ _ _ _ ((Sl.kept (HKb.out.trans k (by simp)) (Fm.sl HYO.out) (by simp)).take HML.out) (by have:=HYL.out;have:=HML.out;omega))
      have hmc:m≤y.c:=by have h1:=(Fm.sl HYO.out).2.1;have:=HML.out;omega
      have hm0:0≤(m:Int):=by omega
      clear h' hwb hpw hgw hvw
      go_upto_region 8 with fail
      refine wp_region_held_drew (S:=fun w9=>w9.cell? ⟨p,0,none⟩=some (.slice (some ⟨g,0,none⟩) X.length c)∧w9.cell? ⟨g,i*3,none⟩=some (.string (str y.n))∧w9.cell? ⟨g,i*3+1,none⟩=some (.slice y.ao y.b.length y.c)) (by kernel_rfl) ⟨c0,e0,e1⟩ (fun hHeld=>?_)
      try simp only [List.append_eq,List.cons_append,List.nil_append]
      refine tks [0,1,2,3,5,6,7,8,9,10,11,12,13,14,15,16,17,18,19,20,21,22,24] (by rfl) (by kernel_rfl) (fun _ _ _ _ _ h=>h) hHeld ?_
      iterate 23
       refine yk ?_ rfl (Or.inl ⟨by rfl,?_⟩) ?_
       rotate_left
       ·intro w9 hSw;obtain ⟨m0,m1,m2⟩:=hSw;go_simp;(try with_reducible rfl)
       try simp only [sT,Act.put]
      refine yk0 ?_
      simp only [setK,sT]
      refine wpAnyH_ready (rs:=[4,23]) (by kernel_rfl) (by simp) (AllReadyH.cons rfl (fun K0 hK0=>?_) (AllReadyH.cons rfl (fun K0 hK0=>?_) AllReadyH.nil))
      ·obtain ⟨hs4,x4⟩:=HSx.out _ HKd.out
       go_simp
       refine hK0.out _ _ hs4 (fun hHeld=>?_)
       clear hK0 K0 hs4 x4
       try simp only [sT,Act.put]
       refine rd1 23 (by kernel_rfl) rfl (fun K0 hK0=>?_)
       go_simp
       refine (cC.out _ HKd.out).mono ?_
       rintro _ w4 ⟨v4,rfl,hO4,hf4,hk4⟩
       have hK4:Kept [] wb w4:=HKd.out.trans hk4 (by simp)
       obtain ⟨a5,n5,k5,rfl,hs5,_⟩:=own_sl hO4
       have hn5:m=n5:=by rw [← hs5.1,List.length_take];have:=HML.out;omega
       subst hn5
       have HK4:=hide hK4
       have HO4:=hide hO4
       have HF4:Hid (∀ q,(Value.slice a5 m k5).ownBlock=some q→wb.heap.size≤q):=fun q hq=>by have h1:=hf4 q hq;have h2:=HKd.out.size;omega
       have HB5:Hid (Bx (w4.alloc (.cells #[.string (str y.n),.slice a5 m k5,.int .i64 m] 73)) w4.heap.size 73 (foC ⟨y.n,y.b.take m,m,a5,k5⟩)):=by
        have e:foC ⟨y.n,y.b.take m,m,a5,k5⟩=[.string (str y.n),.slice a5 m k5,.int .i64 m]:=by
         unfold foC Fm.v
         have e2:(y.b.take m).length=m:=by rw [List.length_take];have:=HML.out;omega
         simp only [e2]
        rw [e];exact Bx.new w4 _ _
       have HK5:Hid (Kept [] wb (w4.alloc (.cells #[.string (str y.n),.slice a5 m k5,.int .i64 m] 73))):=hK4.alloc _
       obtain ⟨hs4,x4⟩:=HSx.out w4 hK4
       clear hO4 hf4 hk4 hK4 hs5 hHeld
       go_wp2_with fail
       refine hK0.out _ _ hs4 (fun hHeld=>?_)
       clear hK0 K0 hs4 x4
       try simp only [sT,Act.put]
       refine tks [25] (by rfl) (by kernel_rfl) (fun _ _ _ _ _ h=>h) hHeld ?_
       iterate 1
        refine yk ?_ rfl (Or.inl ⟨by rfl,?_⟩) ?_
        rotate_left
        ·intro w9 hSw;obtain ⟨m0,m1,m2⟩:=hSw;go_simp;(try with_reducible rfl)
        try simp only [sT,Act.put]
       refine yk0 ?_
       simp only [setK,sT]
       refine rd1 26 (by kernel_rfl) rfl (fun K0 hK0=>?_)
       go_simp
       obtain ⟨hs4,x4⟩:=HSx.out _ HK5.out
       refine hK0.out _ _ hs4 (fun hHeld=>?_)
       clear hK0 K0 hs4 x4
       try simp only [sT,Act.put]
       refine rd1 27 (by kernel_rfl) rfl (fun K0 hK0=>?_)
       rw [if_pos (by rfl)]
       refine Rk.appO rkO _ _ rfl (.slice ax X'.length cx) X' rfl (Rk.kept HR.out HK5.out (by simp)) ⟨w4.heap.size,0,none⟩ 1 1 [⟨y.n,y.b.take m,m,a5,k5⟩] rfl rfl (Rk.news HB5.out) (by have:=HXL.out;simp;omega) ?_
       intro v7 w7 hR7 hg7 hf7
       have hK57:Kept (Value.slice ax X'.length cx).ownBlock.toList (w4.alloc (.cells #[.string (str y.n),.slice a5 m k5,.int .i64 m] 73)) w7:=(Kept.refl _ _).grown hg7 (by intro k hk;left;rw [hk];simp)
       have hK7:Kept (Value.slice ax X'.length cx).ownBlock.toList wb w7:=(HK5.out.mono (by simp)).trans hK57 (fun q hq=>.inl hq)
       have hs7:=HSv.out w7 hK7
       have hsz5:wb.heap.size≤w4.heap.size:=HK4.out.size
       have e2:(y.b.take m).length=m:=by rw [List.length_take];have:=HML.out;omega
       have hv4:∀ q,(Fm.v ⟨y.n,y.b.take m,m,a5,k5⟩).ownBlock=some q→wb.heap.size≤q∧q < w4.heap.size:=fun q hq=>by
        have hq':(Value.slice a5 m k5).ownBlock=some q:=by
         have h9:=hq
         unfold Fm.v at h9
         simp only at h9
         rw [e2] at h9
         exact h9
        exact ⟨HF4.out q hq',(World.ownsRow.lt HO4.out q hq').2⟩
       have hx7:Own w7 (Fm.v ⟨y.n,y.b.take m,m,a5,k5⟩) (y.b.take m):=by
        have h1:Own w7 (.slice a5 m k5) (y.b.take m):=hK57.ownsRow (((Kept.refl [] w4).alloc _).ownsRow HO4.out (by simp)) (fun q hq hm=>by
         have h2:=HF4.out q hq
         have h3:=H'.out.lt q (H'.out.vO (by simpa using hm)).1
         omega)
        show Own w7 (.slice a5 (y.b.take m).length k5) _
        rw [e2];exact h1
       have hxf:∀ q,(Fm.v ⟨y.n,y.b.take m,m,a5,k5⟩).ownBlock=some q→wb.heap.size≤q∧q < w7.heap.size:=fun q hq=>⟨(hv4 q hq).1,by have h1:=(hv4 q hq).2;have h2:=hK57.size;simp at h2;omega⟩
       have hff:∀ q,v7.ownBlock=some q→(Value.slice ax X'.length cx).ownBlock=some q∨wb.heap.size≤q:=fun q hq=>by
        rcases hf7 q hq with h1 | h1
        ·exact .inl h1
        ·simp at h1;exact .inr (by omega)
       have hnn:∀ q,(Fm.v ⟨y.n,y.b.take m,m,a5,k5⟩).ownBlock=some q→v7.ownBlock≠some q:=fun q hq hm=>by
        have h0:=(hv4 q hq)
        rcases hf7 q hm with h1 | h1
        ·have:=H'.out.lt q (H'.out.vO h1).1;omega
        ·simp at h1;omega
       have HFP:Hid (FdP w.heap.size wb Oi ⟨crsL ((X.map Fm.fl).take i) K++[⟨y.n,y.b.take m,m⟩],0,-1,false⟩ (w7.setCell ⟨w.heap.size,0,none⟩ v7)):=AtF.push H'.out hK7 ⟨y.n,y.b.take m,m,a5,k5⟩ hx7 hxf hR7 hff hnn
       have hl7:(X'++[(⟨y.n,y.b.take m,m,a5,k5⟩:Fm)]).length=X'.length+1:=by simp
       have hb7:w.heap.size ∉ (Value.slice ax X'.length cx).ownBlock.toList:=fun hm=>(H'.out.vO (by simpa using hm)).2 rfl
       have x7:=(H'.out.h.kept hK7 hb7).cell 0 rfl
       have z7:=(H'.out.h.kept hK7 hb7).froz 0
       obtain ⟨a7,c7,hv7,_⟩:=Rk.shape hR7
       subst hv7
       have HK7:=hide hK7
       rw [hl7] at HFP
       try rw [hl7]
       generalize X'.length+1=n7 at HFP ⊢
       clear hR7 hg7 hf7 hK57 hK7 hv4 hx7 hHeld hb7 hxf hff hnn hl7 e2
       refine hK0.out _ _ hs7 (fun hHeld=>?_)
       clear hK0 K0
       try simp only [sT,Act.put]
       refine tks [28,29] (by rfl) (by kernel_rfl) (fun _ _ _ _ _ h=>h) hHeld ?_
       iterate 2
        refine yk ?_ rfl (Or.inl ⟨by rfl,?_⟩) ?_
        rotate_left
        ·intro w9 hSw;obtain ⟨m0,m1,m2⟩:=hSw;go_simp;(try with_reducible rfl)
        try simp only [sT,Act.put]
       refine yk0 ?_
       simp only [setK,sT]
       refine rd1 30 (by kernel_rfl) rfl (fun K0 hK0=>?_)
       go_simp
       have hs8:=HSw.out w7 HK7.out (.slice a7 n7 c7)
       refine hK0.out _ _ hs8 (fun hHeld=>?_)
       clear hK0 K0 hs7 hs8 x7 z7
       try simp only [sT,Act.put]
       refine wpAnyH_done (by kernel_rfl) ?_ _
       clear hHeld
       generalize w7.setCell ⟨w.heap.size,0,none⟩ (.slice a7 n7 c7)=w8 at HFP ⊢
       obtain ⟨O8,hA8,hk8,hn8⟩:=HFP.out
       have HA8:Hid (AtF w8 O8 w.heap.size ⟨crsL ((X.map Fm.fl).take (i+1)) K,0,-1,false⟩):=by show AtF _ _ _ _;rw [HNX.out];exact hA8
       have HK8:=hide (HKb.out.trans hk8 (fun k hk=>.inr (HNi.out k hk)))
       have HN8:Hid (∀ k∈O8,w.heap.size≤k):=fun k hk=>by
        rcases hn8 k hk with h1 | h1
        ·exact HNi.out k h1
        ·have:=HKb.out.size;omega
       clear hA8 hk8 hn8
       go_wp2_with fail
       go_roundw
       case rel=>exact ⟨i+1,O8,by go_num,by omega,HA8,HK8,HN8⟩
       case measure=>simp [intOf];omega
      ·go_simp
       refine (cC.out _ HKd.out).mono ?_
       rintro _ w4 ⟨v4,rfl,hO4,hf4,hk4⟩
       have hK4:Kept [] wb w4:=HKd.out.trans hk4 (by simp)
       obtain ⟨a5,n5,k5,rfl,hs5,_⟩:=own_sl hO4
       have hn5:m=n5:=by rw [← hs5.1,List.length_take];have:=HML.out;omega
       subst hn5
       have HK4:=hide hK4
       have HO4:=hide hO4
       have HF4:Hid (∀ q,(Value.slice a5 m k5).ownBlock=some q→wb.heap.size≤q):=fun q hq=>by have h1:=hf4 q hq;have h2:=HKd.out.size;omega
       have HB5:Hid (Bx (w4.alloc (.cells #[.string (str y.n),.slice a5 m k5,.int .i64 m] 73)) w4.heap.size 73 (foC ⟨y.n,y.b.take m,m,a5,k5⟩)):=by
        have e:foC ⟨y.n,y.b.take m,m,a5,k5⟩=[.string (str y.n),.slice a5 m k5,.int .i64 m]:=by
         unfold foC Fm.v
         have e2:(y.b.take m).length=m:=by rw [List.length_take];have:=HML.out;omega
         simp only [e2]
        rw [e];exact Bx.new w4 _ _
       have HK5:Hid (Kept [] wb (w4.alloc (.cells #[.string (str y.n),.slice a5 m k5,.int .i64 m] 73))):=hK4.alloc _
       obtain ⟨hs4,x4⟩:=HSx.out w4 hK4
       clear hO4 hf4 hk4 hK4 hs5 hHeld
       go_wp2_with fail
       refine hK0.out _ _ hs4 (fun hHeld=>?_)
       clear hK0 K0 hs4 x4
       try simp only [sT,Act.put]
       refine tks [25] (by rfl) (by kernel_rfl) (fun _ _ _ _ _ h=>h) hHeld ?_
       iterate 1
        refine yk ?_ rfl (Or.inl ⟨by rfl,?_⟩) ?_
        rotate_left
        ·intro w9 hSw;obtain ⟨m0,m1,m2⟩:=hSw;go_simp;(try with_reducible rfl)
        try simp only [sT,Act.put]
       refine yk0 ?_
       simp only [setK,sT]
       refine wpAnyH_ready (rs:=[4,26]) (by kernel_rfl) (by simp) (AllReadyH.cons rfl (fun K0 hK0=>?_) (AllReadyH.cons rfl (fun K0 hK0=>?_) AllReadyH.nil))
       ·obtain ⟨hs4,x4⟩:=HSx.out _ HK4.out
        go_simp
        refine hK0.out _ _ hs4 (fun hHeld=>?_)
        clear hK0 K0 hs4 x4
        try simp only [sT,Act.put]
        refine rd1 26 (by kernel_rfl) rfl (fun K0 hK0=>?_)
        go_simp
        obtain ⟨hs4,x4⟩:=HSx.out _ HK5.out
        refine hK0.out _ _ hs4 (fun hHeld=>?_)
        clear hK0 K0 hs4 x4
        try simp only [sT,Act.put]
        refine rd1 27 (by kernel_rfl) rfl (fun K0 hK0=>?_)
        rw [if_pos (by rfl)]
        refine Rk.appO rkO _ _ rfl (.slice ax X'.length cx) X' rfl (Rk.kept HR.out HK5.out (by simp)) ⟨w4.heap.size,0,none⟩ 1 1 [⟨y.n,y.b.take m,m,a5,k5⟩] rfl rfl (Rk.news HB5.out) (by have:=HXL.out;simp;omega) ?_
        intro v7 w7 hR7 hg7 hf7
        have hK57:Kept (Value.slice ax X'.length cx).ownBlock.toList (w4.alloc (.cells #[.string (str y.n),.slice a5 m k5,.int .i64 m] 73)) w7:=(Kept.refl _ _).grown hg7 (by intro k hk;left;rw [hk];simp)
        have hK7:Kept (Value.slice ax X'.length cx).ownBlock.toList wb w7:=(HK5.out.mono (by simp)).trans hK57 (fun q hq=>.inl hq)
        have hs7:=HSv.out w7 hK7
        have hsz5:wb.heap.size≤w4.heap.size:=HK4.out.size
        have e2:(y.b.take m).length=m:=by rw [List.length_take];have:=HML.out;omega
        have hv4:∀ q,(Fm.v ⟨y.n,y.b.take m,m,a5,k5⟩).ownBlock=some q→wb.heap.size≤q∧q < w4.heap.size:=fun q hq=>by
         have hq':(Value.slice a5 m k5).ownBlock=some q:=by
          have h9:=hq
          unfold Fm.v at h9
          simp only at h9
          rw [e2] at h9
          exact h9
         exact ⟨HF4.out q hq',(World.ownsRow.lt HO4.out q hq').2⟩
        have hx7:Own w7 (Fm.v ⟨y.n,y.b.take m,m,a5,k5⟩) (y.b.take m):=by
         have h1:Own w7 (.slice a5 m k5) (y.b.take m):=hK57.ownsRow (((Kept.refl [] w4).alloc _).ownsRow HO4.out (by simp)) (fun q hq hm=>by
          have h2:=HF4.out q hq
          have h3:=H'.out.lt q (H'.out.vO (by simpa using hm)).1
          omega)
         show Own w7 (.slice a5 (y.b.take m).length k5) _
         rw [e2];exact h1
        have hxf:∀ q,(Fm.v ⟨y.n,y.b.take m,m,a5,k5⟩).ownBlock=some q→wb.heap.size≤q∧q < w7.heap.size:=fun q hq=>⟨(hv4 q hq).1,by have h1:=(hv4 q hq).2;have h2:=hK57.size;simp at h2;omega⟩
        have hff:∀ q,v7.ownBlock=some q→(Value.slice ax X'.length cx).ownBlock=some q∨wb.heap.size≤q:=fun q hq=>by
         rcases hf7 q hq with h1 | h1
         ·exact .inl h1
         ·simp at h1;exact .inr (by omega)
        have hnn:∀ q,(Fm.v ⟨y.n,y.b.take m,m,a5,k5⟩).ownBlock=some q→v7.ownBlock≠some q:=fun q hq hm=>by
         have h0:=(hv4 q hq)
         rcases hf7 q hm with h1 | h1
         ·have:=H'.out.lt q (H'.out.vO h1).1;omega
         ·simp at h1;omega
        have HFP:Hid (FdP w.heap.size wb Oi ⟨crsL ((X.map Fm.fl).take i) K++[⟨y.n,y.b.take m,m⟩],0,-1,false⟩ (w7.setCell ⟨w.heap.size,0,none⟩ v7)):=AtF.push H'.out hK7 ⟨y.n,y.b.take m,m,a5,k5⟩ hx7 hxf hR7 hff hnn
        have hl7:(X'++[(⟨y.n,y.b.take m,m,a5,k5⟩:Fm)]).length=X'.length+1:=by simp
        have hb7:w.heap.size ∉ (Value.slice ax X'.length cx).ownBlock.toList:=fun hm=>(H'.out.vO (by simpa using hm)).2 rfl
        have x7:=(H'.out.h.kept hK7 hb7).cell 0 rfl
        have z7:=(H'.out.h.kept hK7 hb7).froz 0
        obtain ⟨a7,c7,hv7,_⟩:=Rk.shape hR7
        subst hv7
        have HK7:=hide hK7
        rw [hl7] at HFP
        try rw [hl7]
        generalize X'.length+1=n7 at HFP ⊢
        clear hR7 hg7 hf7 hK57 hK7 hv4 hx7 hHeld hb7 hxf hff hnn hl7 e2
        refine hK0.out _ _ hs7 (fun hHeld=>?_)
        clear hK0 K0
        try simp only [sT,Act.put]
        refine tks [28,29] (by rfl) (by kernel_rfl) (fun _ _ _ _ _ h=>h) hHeld ?_
        iterate 2
         refine yk ?_ rfl (Or.inl ⟨by rfl,?_⟩) ?_
         rotate_left
         ·intro w9 hSw;obtain ⟨m0,m1,m2⟩:=hSw;go_simp;(try with_reducible rfl)
         try simp only [sT,Act.put]
        refine yk0 ?_
        simp only [setK,sT]
        refine rd1 30 (by kernel_rfl) rfl (fun K0 hK0=>?_)
        go_simp
        have hs8:=HSw.out w7 HK7.out (.slice a7 n7 c7)
        refine hK0.out _ _ hs8 (fun hHeld=>?_)
        clear hK0 K0 hs7 hs8 x7 z7
        try simp only [sT,Act.put]
        refine wpAnyH_done (by kernel_rfl) ?_ _
        clear hHeld
        generalize w7.setCell ⟨w.heap.size,0,none⟩ (.slice a7 n7 c7)=w8 at HFP ⊢
        obtain ⟨O8,hA8,hk8,hn8⟩:=HFP.out
        have HA8:Hid (AtF w8 O8 w.heap.size ⟨crsL ((X.map Fm.fl).take (i+1)) K,0,-1,false⟩):=by show AtF _ _ _ _;rw [HNX.out];exact hA8
        have HK8:=hide (HKb.out.trans hk8 (fun k hk=>.inr (HNi.out k hk)))
        have HN8:Hid (∀ k∈O8,w.heap.size≤k):=fun k hk=>by
         rcases hn8 k hk with h1 | h1
         ·exact HNi.out k h1
         ·have:=HKb.out.size;omega
        clear hA8 hk8 hn8
        go_wp2_with fail
        go_roundw
        case rel=>exact ⟨i+1,O8,by go_num,by omega,HA8,HK8,HN8⟩
        case measure=>simp [intOf];omega
       ·go_simp
        obtain ⟨hs4,x4⟩:=HSx.out _ HK5.out
        refine hK0.out _ _ hs4 (fun hHeld=>?_)
        clear hK0 K0 hs4 x4
        try simp only [sT,Act.put]
        refine rd1 4 (by kernel_rfl) rfl (fun K0 hK0=>?_)
        obtain ⟨hs4,x4⟩:=HSx.out _ HK5.out
        go_simp
        refine hK0.out _ _ hs4 (fun hHeld=>?_)
        clear hK0 K0 hs4 x4
        try simp only [sT,Act.put]
        refine rd1 27 (by kernel_rfl) rfl (fun K0 hK0=>?_)
        rw [if_pos (by rfl)]
        refine Rk.appO rkO _ _ rfl (.slice ax X'.length cx) X' rfl (Rk.kept HR.out HK5.out (by simp)) ⟨w4.heap.size,0,none⟩ 1 1 [⟨y.n,y.b.take m,m,a5,k5⟩] rfl rfl (Rk.news HB5.out) (by have:=HXL.out;simp;omega) ?_
        intro v7 w7 hR7 hg7 hf7
        have hK57:Kept (Value.slice ax X'.length cx).ownBlock.toList (w4.alloc (.cells #[.string (str y.n),.slice a5 m k5,.int .i64 m] 73)) w7:=(Kept.refl _ _).grown hg7 (by intro k hk;left;rw [hk];simp)
        have hK7:Kept (Value.slice ax X'.length cx).ownBlock.toList wb w7:=(HK5.out.mono (by simp)).trans hK57 (fun q hq=>.inl hq)
        have hs7:=HSv.out w7 hK7
        have hsz5:wb.heap.size≤w4.heap.size:=HK4.out.size
        have e2:(y.b.take m).length=m:=by rw [List.length_take];have:=HML.out;omega
        have hv4:∀ q,(Fm.v ⟨y.n,y.b.take m,m,a5,k5⟩).ownBlock=some q→wb.heap.size≤q∧q < w4.heap.size:=fun q hq=>by
         have hq':(Value.slice a5 m k5).ownBlock=some q:=by
          have h9:=hq
          unfold Fm.v at h9
          simp only at h9
          rw [e2] at h9
          exact h9
         exact ⟨HF4.out q hq',(World.ownsRow.lt HO4.out q hq').2⟩
        have hx7:Own w7 (Fm.v ⟨y.n,y.b.take m,m,a5,k5⟩) (y.b.take m):=by
         have h1:Own w7 (.slice a5 m k5) (y.b.take m):=hK57.ownsRow (((Kept.refl [] w4).alloc _).ownsRow HO4.out (by simp)) (fun q hq hm=>by
          have h2:=HF4.out q hq
          have h3:=H'.out.lt q (H'.out.vO (by simpa using hm)).1
          omega)
         show Own w7 (.slice a5 (y.b.take m).length k5) _
         rw [e2];exact h1
        have hxf:∀ q,(Fm.v ⟨y.n,y.b.take m,m,a5,k5⟩).ownBlock=some q→wb.heap.size≤q∧q < w7.heap.size:=fun q hq=>⟨(hv4 q hq).1,by have h1:=(hv4 q hq).2;have h2:=hK57.size;simp at h2;omega⟩
        have hff:∀ q,v7.ownBlock=some q→(Value.slice ax X'.length cx).ownBlock=some q∨wb.heap.size≤q:=fun q hq=>by
         rcases hf7 q hq with h1 | h1
         ·exact .inl h1
         ·simp at h1;exact .inr (by omega)
        have hnn:∀ q,(Fm.v ⟨y.n,y.b.take m,m,a5,k5⟩).ownBlock=some q→v7.ownBlock≠some q:=fun q hq hm=>by
         have h0:=(hv4 q hq)
         rcases hf7 q hm with h1 | h1
         ·have:=H'.out.lt q (H'.out.vO h1).1;omega
         ·simp at h1;omega
        have HFP:Hid (FdP w.heap.size wb Oi ⟨crsL ((X.map Fm.fl).take i) K++[⟨y.n,y.b.take m,m⟩],0,-1,false⟩ (w7.setCell ⟨w.heap.size,0,none⟩ v7)):=AtF.push H'.out hK7 ⟨y.n,y.b.take m,m,a5,k5⟩ hx7 hxf hR7 hff hnn
        have hl7:(X'++[(⟨y.n,y.b.take m,m,a5,k5⟩:Fm)]).length=X'.length+1:=by simp
        have hb7:w.heap.size ∉ (Value.slice ax X'.length cx).ownBlock.toList:=fun hm=>(H'.out.vO (by simpa using hm)).2 rfl
        have x7:=(H'.out.h.kept hK7 hb7).cell 0 rfl
        have z7:=(H'.out.h.kept hK7 hb7).froz 0
        obtain ⟨a7,c7,hv7,_⟩:=Rk.shape hR7
        subst hv7
        have HK7:=hide hK7
        rw [hl7] at HFP
        try rw [hl7]
        generalize X'.length+1=n7 at HFP ⊢
        clear hR7 hg7 hf7 hK57 hK7 hv4 hx7 hHeld hb7 hxf hff hnn hl7 e2
        refine hK0.out _ _ hs7 (fun hHeld=>?_)
        clear hK0 K0
        try simp only [sT,Act.put]
        refine tks [28,29] (by rfl) (by kernel_rfl) (fun _ _ _ _ _ h=>h) hHeld ?_
        iterate 2
         refine yk ?_ rfl (Or.inl ⟨by rfl,?_⟩) ?_
         rotate_left
         ·intro w9 hSw;obtain ⟨m0,m1,m2⟩:=hSw;go_simp;(try with_reducible rfl)
         try simp only [sT,Act.put]
        refine yk0 ?_
        simp only [setK,sT]
        refine rd1 30 (by kernel_rfl) rfl (fun K0 hK0=>?_)
        go_simp
        have hs8:=HSw.out w7 HK7.out (.slice a7 n7 c7)
        refine hK0.out _ _ hs8 (fun hHeld=>?_)
        clear hK0 K0 hs7 hs8 x7 z7
        try simp only [sT,Act.put]
        refine wpAnyH_done (by kernel_rfl) ?_ _
        clear hHeld
        generalize w7.setCell ⟨w.heap.size,0,none⟩ (.slice a7 n7 c7)=w8 at HFP ⊢
        obtain ⟨O8,hA8,hk8,hn8⟩:=HFP.out
        have HA8:Hid (AtF w8 O8 w.heap.size ⟨crsL ((X.map Fm.fl).take (i+1)) K,0,-1,false⟩):=by show AtF _ _ _ _;rw [HNX.out];exact hA8
        have HK8:=hide (HKb.out.trans hk8 (fun k hk=>.inr (HNi.out k hk)))
        have HN8:Hid (∀ k∈O8,w.heap.size≤k):=fun k hk=>by
         rcases hn8 k hk with h1 | h1
         ·exact HNi.out k h1
         ·have:=HKb.out.size;omega
        clear hA8 hk8 hn8
        go_wp2_with fail
        go_roundw
        case rel=>exact ⟨i+1,O8,by go_num,by omega,HA8,HK8,HN8⟩
        case measure=>simp [intOf];omega
     ·have hmn':¬ (y.b.length:Int) - (y.l:Int) < (kk:Int):=hmn
      obtain ⟨m,hml⟩:∃ m,m=y.l+kk:=⟨_,rfl⟩
      have HML:Hid (m≤y.b.length):=by show _≤_;rw [hml];omega
      have HNX:Hid (crsL ((X.map Fm.fl).take (i+1)) K=crsL ((X.map Fm.fl).take i) K++[⟨y.n,y.b.take m,m⟩]):=by
       show _=_
       rw [HN0.out,HKN.out,hml]
       have e:y.l+(min (kk:Int) ((y.b.length:Int) - (y.l:Int))).toNat=y.l+kk:=by omega
       rw [e]
      go_upto_region 7 with fail
      refine wp_region_held_drew (S:=fun w9=>w9.cell? ⟨p,0,none⟩=some (.slice (some ⟨g,0,none⟩) X.length c)∧w9.cell? ⟨g,i*3+1,none⟩=some (.slice y.ao y.b.length y.c)∧w9.cell? ⟨kb,kof+i,none⟩=some (.int .i64 kk)) (by kernel_rfl) ⟨c0,e1,k0⟩ (fun hHeld=>?_)
      try simp only [List.append_eq,List.cons_append,List.nil_append]
      refine tks [0,1,2,3,4,5,6,7,8,9,10,11,12,13,14,15,16,17,18] (by rfl) (by kernel_rfl) (fun _ _ _ _ _ h=>h) hHeld ?_
      iterate 19
       refine yk ?_ rfl (Or.inl ⟨by rfl,?_⟩) ?_
       rotate_left
       ·intro w9 hSw;obtain ⟨m0,m1,m2⟩:=hSw;go_simp;(try with_reducible rfl)
       try simp only [sT,Act.put]
      refine yk0 ?_
      simp only [setK,sT]
      refine wpAnyH_done (by kernel_rfl) ?_ _
      clear hHeld
      have hw1:IntKind.i64.wrap ((y.b.length:Int) - (y.l:Int))=(y.b.length:Int) - (y.l:Int):=IntWalk.i64_in _ (by omega)
      have hif:(if IntKind.i64.wrap ((y.b.length:Int) - (y.l:Int)) < (kk:Int) then IntKind.i64.wrap ((y.b.length:Int) - (y.l:Int)) else (kk:Int))=(kk:Int):=by rw [hw1,if_neg hmn]
      have hv:IntKind.i64.wrap ((y.l:Int)+(kk:Int))=(m:Int):=by
       rw [hml,show (y.l:Int)+(kk:Int)=((y.l+kk:Nat):Int) by omega]
       exact IntWalk.i64_in _ (by omega)
      rw [hif,hv,hw1]
      clear hif hv hw1 hml hmn hmn' k0 e2 e1 c0 hyl hll hll' hpos HKN HN0 hik hik'
      obtain ⟨wb,hwb⟩:∃ wb,wb=wr.drew:=⟨_,rfl⟩
      rw [← hwb]
      have HKb:Hid (Kept [] w wb):=by rw [hwb];exact HKi.out.drew
      obtain ⟨vx,X',h'⟩:AtF wb Oi w.heap.size ⟨crsL ((X.map Fm.fl).take i) K,0,-1,false⟩:=by rw [hwb];exact HAi.out.kept (Kept.refl [] wr).drew (by simp)
      obtain ⟨ax,cx,hvx,_,_,_,_⟩:=Rk.shape h'.r
      subst hvx
      have c0:wb.cell? ⟨p,0,none⟩=some (.slice (some ⟨g,0,none⟩) X.length c):=(HH.out.h.kept HKb.out (by simp)).cell 0 rfl
      have e0:wb.cell? ⟨g,i*3,none⟩=some (.string (str y.n)):=(range_keptF HEL.out HKb.out (by simp)) 0 _ rfl
      have e1:wb.cell? ⟨g,i*3+1,none⟩=some (.slice y.ao y.b.length y.c):=(range_keptF HEL.out HKb.out (by simp)) 1 _ rfl
      have H':=hide h'
      have HR:=hide h'.r
      have HXL:Hid (X'.length≤10000000):=by
       show _≤_
       rw [h'.len]
       show (crsL _ K).length≤_
       rw [crsL_len,List.length_take]
       omega
      have hpw:p < w.heap.size:=HH.out.h.lt
      have hgw:g < w.heap.size:=HH.out.lt g (HH.out.vO rfl).1
      have hvw:∀ q∈(Value.slice ax X'.length cx).ownBlock.toList,w.heap.size≤q:=fun q hq=>HNi.out q (h'.vO (by simpa using hq)).1
      have HSv:Hid (∀ W,Kept (Value.slice ax X'.length cx).ownBlock.toList wb W→W.cell? ⟨p,0,none⟩=some (.slice (some ⟨g,0,none⟩) X.length c)∧W.cell? ⟨g,i*3,none⟩=some (.string (str y.n))∧W.cell? ⟨g,i*3+1,none⟩=some (.slice y.ao y.b.length y.c)):=fun W hk =>
       ⟨hk.cell c0 (fun hm=>by have:=hvw _ hm;simp at this;omega),hk.cell e0 (fun hm=>by have:=hvw _ hm;simp at this;omega),hk.cell e1 (fun hm=>by have:=hvw _ hm;simp at this;omega)⟩
      have HSw:Hid (∀ W,Kept (Value.slice ax X'.length cx).ownBlock.toList wb W→∀ u,(W.setCell ⟨w.heap.size,0,none⟩ u).cell? ⟨p,0,none⟩=some (.slice (some ⟨g,0,none⟩) X.length c)∧(W.setCell ⟨w.heap.size,0,none⟩ u).cell? ⟨g,i*3,none⟩=some (.string (str y.n))∧(W.setCell ⟨w.heap.size,0,none⟩ u).cell? ⟨g,i*3+1,none⟩=some (.slice y.ao y.b.length y.c)):=fun W hk u=>by
       obtain ⟨h1,h2,h3⟩:=HSv.out W hk
       have k9:Kept [w.heap.size] W (W.setCell ⟨w.heap.size,0,none⟩ u):=(Kept.refl _ _).setCell (by simp) _
       exact ⟨k9.cell h1 (by simp;omega),k9.cell h2 (by simp;omega),k9.cell h3 (by simp;omega)⟩
      have HSx:Hid (∀ W,Kept [] wb W→(W.cell? ⟨p,0,none⟩=some (.slice (some ⟨g,0,none⟩) X.length c)∧W.cell? ⟨g,i*3,none⟩=some (.string (str y.n))∧W.cell? ⟨g,i*3+1,none⟩=some (.slice y.ao y.b.length y.c))∧W.cell? ⟨w.heap.size,0,none⟩=some (.slice ax X'.length cx)):=fun W hk=>⟨HSv.out W (hk.mono (by simp)),(h'.h.kept hk (by simp)).cell 0 rfl⟩
      have HKd:Hid (Kept [] wb wb.drew):=(Kept.refl [] wb).drew
      have cC:=hide (fun (W:World) (k:Kept [] wb W)=>copy_call W _ _ _ _ ((Sl.kept (HKb.out.trans k (by simp)) (Fm.sl HYO.out) (by simp)).take HML.out) (by have:=HYL.out;have:=HML.out;omega))
      have hmc:m≤y.c:=by have h1:=(Fm.sl HYO.out).2.1;have:=HML.out;omega
      have hm0:0≤(m:Int):=by omega
      clear h' hwb hpw hgw hvw
      go_upto_region 8 with fail
      refine wp_region_held_drew (S:=fun w9=>w9.cell? ⟨p,0,none⟩=some (.slice (some ⟨g,0,none⟩) X.length c)∧w9.cell? ⟨g,i*3,none⟩=some (.string (str y.n))∧w9.cell? ⟨g,i*3+1,none⟩=some (.slice y.ao y.b.length y.c)) (by kernel_rfl) ⟨c0,e0,e1⟩ (fun hHeld=>?_)
      try simp only [List.append_eq,List.cons_append,List.nil_append]
      refine tks [0,1,2,3,5,6,7,8,9,10,11,12,13,14,15,16,17,18,19,20,21,22,24] (by rfl) (by kernel_rfl) (fun _ _ _ _ _ h=>h) hHeld ?_
      iterate 23
       refine yk ?_ rfl (Or.inl ⟨by rfl,?_⟩) ?_
       rotate_left
       ·intro w9 hSw;obtain ⟨m0,m1,m2⟩:=hSw;go_simp;(try with_reducible rfl)
       try simp only [sT,Act.put]
      refine yk0 ?_
      simp only [setK,sT]
      refine wpAnyH_ready (rs:=[4,23]) (by kernel_rfl) (by simp) (AllReadyH.cons rfl (fun K0 hK0=>?_) (AllReadyH.cons rfl (fun K0 hK0=>?_) AllReadyH.nil))
      ·obtain ⟨hs4,x4⟩:=HSx.out _ HKd.out
       go_simp
       refine hK0.out _ _ hs4 (fun hHeld=>?_)
       clear hK0 K0 hs4 x4
       try simp only [sT,Act.put]
       refine rd1 23 (by kernel_rfl) rfl (fun K0 hK0=>?_)
       go_simp
       refine (cC.out _ HKd.out).mono ?_
       rintro _ w4 ⟨v4,rfl,hO4,hf4,hk4⟩
       have hK4:Kept [] wb w4:=HKd.out.trans hk4 (by simp)
       obtain ⟨a5,n5,k5,rfl,hs5,_⟩:=own_sl hO4
       have hn5:m=n5:=by rw [← hs5.1,List.length_take];have:=HML.out;omega
       subst hn5
       have HK4:=hide hK4
       have HO4:=hide hO4
       have HF4:Hid (∀ q,(Value.slice a5 m k5).ownBlock=some q→wb.heap.size≤q):=fun q hq=>by have h1:=hf4 q hq;have h2:=HKd.out.size;omega
       have HB5:Hid (Bx (w4.alloc (.cells #[.string (str y.n),.slice a5 m k5,.int .i64 m] 73)) w4.heap.size 73 (foC ⟨y.n,y.b.take m,m,a5,k5⟩)):=by
        have e:foC ⟨y.n,y.b.take m,m,a5,k5⟩=[.string (str y.n),.slice a5 m k5,.int .i64 m]:=by
         unfold foC Fm.v
         have e2:(y.b.take m).length=m:=by rw [List.length_take];have:=HML.out;omega
         simp only [e2]
        rw [e];exact Bx.new w4 _ _
       have HK5:Hid (Kept [] wb (w4.alloc (.cells #[.string (str y.n),.slice a5 m k5,.int .i64 m] 73))):=hK4.alloc _
       obtain ⟨hs4,x4⟩:=HSx.out w4 hK4
       clear hO4 hf4 hk4 hK4 hs5 hHeld
       go_wp2_with fail
       refine hK0.out _ _ hs4 (fun hHeld=>?_)
       clear hK0 K0 hs4 x4
       try simp only [sT,Act.put]
       refine tks [25] (by rfl) (by kernel_rfl) (fun _ _ _ _ _ h=>h) hHeld ?_
       iterate 1
        refine yk ?_ rfl (Or.inl ⟨by rfl,?_⟩) ?_
        rotate_left
        ·intro w9 hSw;obtain ⟨m0,m1,m2⟩:=hSw;go_simp;(try with_reducible rfl)
        try simp only [sT,Act.put]
       refine yk0 ?_
       simp only [setK,sT]
       refine rd1 26 (by kernel_rfl) rfl (fun K0 hK0=>?_)
       go_simp
       obtain ⟨hs4,x4⟩:=HSx.out _ HK5.out
       refine hK0.out _ _ hs4 (fun hHeld=>?_)
       clear hK0 K0 hs4 x4
       try simp only [sT,Act.put]
       refine rd1 27 (by kernel_rfl) rfl (fun K0 hK0=>?_)
       rw [if_pos (by rfl)]
       refine Rk.appO rkO _ _ rfl (.slice ax X'.length cx) X' rfl (Rk.kept HR.out HK5.out (by simp)) ⟨w4.heap.size,0,none⟩ 1 1 [⟨y.n,y.b.take m,m,a5,k5⟩] rfl rfl (Rk.news HB5.out) (by have:=HXL.out;simp;omega) ?_
       intro v7 w7 hR7 hg7 hf7
       have hK57:Kept (Value.slice ax X'.length cx).ownBlock.toList (w4.alloc (.cells #[.string (str y.n),.slice a5 m k5,.int .i64 m] 73)) w7:=(Kept.refl _ _).grown hg7 (by intro k hk;left;rw [hk];simp)
       have hK7:Kept (Value.slice ax X'.length cx).ownBlock.toList wb w7:=(HK5.out.mono (by simp)).trans hK57 (fun q hq=>.inl hq)
       have hs7:=HSv.out w7 hK7
       have hsz5:wb.heap.size≤w4.heap.size:=HK4.out.size
       have e2:(y.b.take m).length=m:=by rw [List.length_take];have:=HML.out;omega
       have hv4:∀ q,(Fm.v ⟨y.n,y.b.take m,m,a5,k5⟩).ownBlock=some q→wb.heap.size≤q∧q < w4.heap.size:=fun q hq=>by
        have hq':(Value.slice a5 m k5).ownBlock=some q:=by
         have h9:=hq
         unfold Fm.v at h9
         simp only at h9
         rw [e2] at h9
         exact h9
        exact ⟨HF4.out q hq',(World.ownsRow.lt HO4.out q hq').2⟩
       have hx7:Own w7 (Fm.v ⟨y.n,y.b.take m,m,a5,k5⟩) (y.b.take m):=by
        have h1:Own w7 (.slice a5 m k5) (y.b.take m):=hK57.ownsRow (((Kept.refl [] w4).alloc _).ownsRow HO4.out (by simp)) (fun q hq hm=>by
         have h2:=HF4.out q hq
         have h3:=H'.out.lt q (H'.out.vO (by simpa using hm)).1
         omega)
        show Own w7 (.slice a5 (y.b.take m).length k5) _
        rw [e2];exact h1
       have hxf:∀ q,(Fm.v ⟨y.n,y.b.take m,m,a5,k5⟩).ownBlock=some q→wb.heap.size≤q∧q < w7.heap.size:=fun q hq=>⟨(hv4 q hq).1,by have h1:=(hv4 q hq).2;have h2:=hK57.size;simp at h2;omega⟩
       have hff:∀ q,v7.ownBlock=some q→(Value.slice ax X'.length cx).ownBlock=some q∨wb.heap.size≤q:=fun q hq=>by
        rcases hf7 q hq with h1 | h1
        ·exact .inl h1
        ·simp at h1;exact .inr (by omega)
       have hnn:∀ q,(Fm.v ⟨y.n,y.b.take m,m,a5,k5⟩).ownBlock=some q→v7.ownBlock≠some q:=fun q hq hm=>by
        have h0:=(hv4 q hq)
        rcases hf7 q hm with h1 | h1
        ·have:=H'.out.lt q (H'.out.vO h1).1;omega
        ·simp at h1;omega
       have HFP:Hid (FdP w.heap.size wb Oi ⟨crsL ((X.map Fm.fl).take i) K++[⟨y.n,y.b.take m,m⟩],0,-1,false⟩ (w7.setCell ⟨w.heap.size,0,none⟩ v7)):=AtF.push H'.out hK7 ⟨y.n,y.b.take m,m,a5,k5⟩ hx7 hxf hR7 hff hnn
       have hl7:(X'++[(⟨y.n,y.b.take m,m,a5,k5⟩:Fm)]).length=X'.length+1:=by simp
       have hb7:w.heap.size ∉ (Value.slice ax X'.length cx).ownBlock.toList:=fun hm=>(H'.out.vO (by simpa using hm)).2 rfl
       have x7:=(H'.out.h.kept hK7 hb7).cell 0 rfl
       have z7:=(H'.out.h.kept hK7 hb7).froz 0
       obtain ⟨a7,c7,hv7,_⟩:=Rk.shape hR7
       subst hv7
       have HK7:=hide hK7
       rw [hl7] at HFP
       try rw [hl7]
       generalize X'.length+1=n7 at HFP ⊢
       clear hR7 hg7 hf7 hK57 hK7 hv4 hx7 hHeld hb7 hxf hff hnn hl7 e2
       refine hK0.out _ _ hs7 (fun hHeld=>?_)
       clear hK0 K0
       try simp only [sT,Act.put]
       refine tks [28,29] (by rfl) (by kernel_rfl) (fun _ _ _ _ _ h=>h) hHeld ?_
       iterate 2
        refine yk ?_ rfl (Or.inl ⟨by rfl,?_⟩) ?_
        rotate_left
        ·intro w9 hSw;obtain ⟨m0,m1,m2⟩:=hSw;go_simp;(try with_reducible rfl)
        try simp only [sT,Act.put]
       refine yk0 ?_
       simp only [setK,sT]
       refine rd1 30 (by kernel_rfl) rfl (fun K0 hK0=>?_)
       go_simp
       have hs8:=HSw.out w7 HK7.out (.slice a7 n7 c7)
       refine hK0.out _ _ hs8 (fun hHeld=>?_)
       clear hK0 K0 hs7 hs8 x7 z7
       try simp only [sT,Act.put]
       refine wpAnyH_done (by kernel_rfl) ?_ _
       clear hHeld
       generalize w7.setCell ⟨w.heap.size,0,none⟩ (.slice a7 n7 c7)=w8 at HFP ⊢
       obtain ⟨O8,hA8,hk8,hn8⟩:=HFP.out
       have HA8:Hid (AtF w8 O8 w.heap.size ⟨crsL ((X.map Fm.fl).take (i+1)) K,0,-1,false⟩):=by show AtF _ _ _ _;rw [HNX.out];exact hA8
       have HK8:=hide (HKb.out.trans hk8 (fun k hk=>.inr (HNi.out k hk)))
       have HN8:Hid (∀ k∈O8,w.heap.size≤k):=fun k hk=>by
        rcases hn8 k hk with h1 | h1
        ·exact HNi.out k h1
        ·have:=HKb.out.size;omega
       clear hA8 hk8 hn8
       go_wp2_with fail
       go_roundw
       case rel=>exact ⟨i+1,O8,by go_num,by omega,HA8,HK8,HN8⟩
       case measure=>simp [intOf];omega
      ·go_simp
       refine (cC.out _ HKd.out).mono ?_
       rintro _ w4 ⟨v4,rfl,hO4,hf4,hk4⟩
       have hK4:Kept [] wb w4:=HKd.out.trans hk4 (by simp)
       obtain ⟨a5,n5,k5,rfl,hs5,_⟩:=own_sl hO4
       have hn5:m=n5:=by rw [← hs5.1,List.length_take];have:=HML.out;omega
       subst hn5
       have HK4:=hide hK4
       have HO4:=hide hO4
       have HF4:Hid (∀ q,(Value.slice a5 m k5).ownBlock=some q→wb.heap.size≤q):=fun q hq=>by have h1:=hf4 q hq;have h2:=HKd.out.size;omega
       have HB5:Hid (Bx (w4.alloc (.cells #[.string (str y.n),.slice a5 m k5,.int .i64 m] 73)) w4.heap.size 73 (foC ⟨y.n,y.b.take m,m,a5,k5⟩)):=by
        have e:foC ⟨y.n,y.b.take m,m,a5,k5⟩=[.string (str y.n),.slice a5 m k5,.int .i64 m]:=by
         unfold foC Fm.v
         have e2:(y.b.take m).length=m:=by rw [List.length_take];have:=HML.out;omega
         simp only [e2]
        rw [e];exact Bx.new w4 _ _
       have HK5:Hid (Kept [] wb (w4.alloc (.cells #[.string (str y.n),.slice a5 m k5,.int .i64 m] 73))):=hK4.alloc _
       obtain ⟨hs4,x4⟩:=HSx.out w4 hK4
       clear hO4 hf4 hk4 hK4 hs5 hHeld
       go_wp2_with fail
       refine hK0.out _ _ hs4 (fun hHeld=>?_)
       clear hK0 K0 hs4 x4
       try simp only [sT,Act.put]
       refine tks [25] (by rfl) (by kernel_rfl) (fun _ _ _ _ _ h=>h) hHeld ?_
       iterate 1
        refine yk ?_ rfl (Or.inl ⟨by rfl,?_⟩) ?_
        rotate_left
        ·intro w9 hSw;obtain ⟨m0,m1,m2⟩:=hSw;go_simp;(try with_reducible rfl)
        try simp only [sT,Act.put]
       refine yk0 ?_
       simp only [setK,sT]
       refine wpAnyH_ready (rs:=[4,26]) (by kernel_rfl) (by simp) (AllReadyH.cons rfl (fun K0 hK0=>?_) (AllReadyH.cons rfl (fun K0 hK0=>?_) AllReadyH.nil))
       ·obtain ⟨hs4,x4⟩:=HSx.out _ HK4.out
        go_simp
        refine hK0.out _ _ hs4 (fun hHeld=>?_)
        clear hK0 K0 hs4 x4
        try simp only [sT,Act.put]
        refine rd1 26 (by kernel_rfl) rfl (fun K0 hK0=>?_)
        go_simp
        obtain ⟨hs4,x4⟩:=HSx.out _ HK5.out
        refine hK0.out _ _ hs4 (fun hHeld=>?_)
        clear hK0 K0 hs4 x4
        try simp only [sT,Act.put]
        refine rd1 27 (by kernel_rfl) rfl (fun K0 hK0=>?_)
        rw [if_pos (by rfl)]
        refine Rk.appO rkO _ _ rfl (.slice ax X'.length cx) X' rfl (Rk.kept HR.out HK5.out (by simp)) ⟨w4.heap.size,0,none⟩ 1 1 [⟨y.n,y.b.take m,m,a5,k5⟩] rfl rfl (Rk.news HB5.out) (by have:=HXL.out;simp;omega) ?_
        intro v7 w7 hR7 hg7 hf7
        have hK57:Kept (Value.slice ax X'.length cx).ownBlock.toList (w4.alloc (.cells #[.string (str y.n),.slice a5 m k5,.int .i64 m] 73)) w7:=(Kept.refl _ _).grown hg7 (by intro k hk;left;rw [hk];simp)
        have hK7:Kept (Value.slice ax X'.length cx).ownBlock.toList wb w7:=(HK5.out.mono (by simp)).trans hK57 (fun q hq=>.inl hq)
        have hs7:=HSv.out w7 hK7
        have hsz5:wb.heap.size≤w4.heap.size:=HK4.out.size
        have e2:(y.b.take m).length=m:=by rw [List.length_take];have:=HML.out;omega
        have hv4:∀ q,(Fm.v ⟨y.n,y.b.take m,m,a5,k5⟩).ownBlock=some q→wb.heap.size≤q∧q < w4.heap.size:=fun q hq=>by
         have hq':(Value.slice a5 m k5).ownBlock=some q:=by
          have h9:=hq
          unfold Fm.v at h9
          simp only at h9
          rw [e2] at h9
          exact h9
         exact ⟨HF4.out q hq',(World.ownsRow.lt HO4.out q hq').2⟩
        have hx7:Own w7 (Fm.v ⟨y.n,y.b.take m,m,a5,k5⟩) (y.b.take m):=by
         have h1:Own w7 (.slice a5 m k5) (y.b.take m):=hK57.ownsRow (((Kept.refl [] w4).alloc _).ownsRow HO4.out (by simp)) (fun q hq hm=>by
          have h2:=HF4.out q hq
          have h3:=H'.out.lt q (H'.out.vO (by simpa using hm)).1
          omega)
         show Own w7 (.slice a5 (y.b.take m).length k5) _
         rw [e2];exact h1
        have hxf:∀ q,(Fm.v ⟨y.n,y.b.take m,m,a5,k5⟩).ownBlock=some q→wb.heap.size≤q∧q < w7.heap.size:=fun q hq=>⟨(hv4 q hq).1,by have h1:=(hv4 q hq).2;have h2:=hK57.size;simp at h2;omega⟩
        have hff:∀ q,v7.ownBlock=some q→(Value.slice ax X'.length cx).ownBlock=some q∨wb.heap.size≤q:=fun q hq=>by
         rcases hf7 q hq with h1 | h1
         ·exact .inl h1
         ·simp at h1;exact .inr (by omega)
        have hnn:∀ q,(Fm.v ⟨y.n,y.b.take m,m,a5,k5⟩).ownBlock=some q→v7.ownBlock≠some q:=fun q hq hm=>by
         have h0:=(hv4 q hq)
         rcases hf7 q hm with h1 | h1
         ·have:=H'.out.lt q (H'.out.vO h1).1;omega
         ·simp at h1;omega
        have HFP:Hid (FdP w.heap.size wb Oi ⟨crsL ((X.map Fm.fl).take i) K++[⟨y.n,y.b.take m,m⟩],0,-1,false⟩ (w7.setCell ⟨w.heap.size,0,none⟩ v7)):=AtF.push H'.out hK7 ⟨y.n,y.b.take m,m,a5,k5⟩ hx7 hxf hR7 hff hnn
        have hl7:(X'++[(⟨y.n,y.b.take m,m,a5,k5⟩:Fm)]).length=X'.length+1:=by simp
        have hb7:w.heap.size ∉ (Value.slice ax X'.length cx).ownBlock.toList:=fun hm=>(H'.out.vO (by simpa using hm)).2 rfl
        have x7:=(H'.out.h.kept hK7 hb7).cell 0 rfl
        have z7:=(H'.out.h.kept hK7 hb7).froz 0
        obtain ⟨a7,c7,hv7,_⟩:=Rk.shape hR7
        subst hv7
        have HK7:=hide hK7
        rw [hl7] at HFP
        try rw [hl7]
        generalize X'.length+1=n7 at HFP ⊢
        clear hR7 hg7 hf7 hK57 hK7 hv4 hx7 hHeld hb7 hxf hff hnn hl7 e2
        refine hK0.out _ _ hs7 (fun hHeld=>?_)
        clear hK0 K0
        try simp only [sT,Act.put]
        refine tks [28,29] (by rfl) (by kernel_rfl) (fun _ _ _ _ _ h=>h) hHeld ?_
        iterate 2
         refine yk ?_ rfl (Or.inl ⟨by rfl,?_⟩) ?_
         rotate_left
         ·intro w9 hSw;obtain ⟨m0,m1,m2⟩:=hSw;go_simp;(try with_reducible rfl)
         try simp only [sT,Act.put]
        refine yk0 ?_
        simp only [setK,sT]
        refine rd1 30 (by kernel_rfl) rfl (fun K0 hK0=>?_)
        go_simp
        have hs8:=HSw.out w7 HK7.out (.slice a7 n7 c7)
        refine hK0.out _ _ hs8 (fun hHeld=>?_)
        clear hK0 K0 hs7 hs8 x7 z7
        try simp only [sT,Act.put]
        refine wpAnyH_done (by kernel_rfl) ?_ _
        clear hHeld
        generalize w7.setCell ⟨w.heap.size,0,none⟩ (.slice a7 n7 c7)=w8 at HFP ⊢
        obtain ⟨O8,hA8,hk8,hn8⟩:=HFP.out
        have HA8:Hid (AtF w8 O8 w.heap.size ⟨crsL ((X.map Fm.fl).take (i+1)) K,0,-1,false⟩):=by show AtF _ _ _ _;rw [HNX.out];exact hA8
        have HK8:=hide (HKb.out.trans hk8 (fun k hk=>.inr (HNi.out k hk)))
        have HN8:Hid (∀ k∈O8,w.heap.size≤k):=fun k hk=>by
         rcases hn8 k hk with h1 | h1
         ·exact HNi.out k h1
         ·have:=HKb.out.size;omega
        clear hA8 hk8 hn8
        go_wp2_with fail
        go_roundw
        case rel=>exact ⟨i+1,O8,by go_num,by omega,HA8,HK8,HN8⟩
        case measure=>simp [intOf];omega
       ·go_simp
        obtain ⟨hs4,x4⟩:=HSx.out _ HK5.out
        refine hK0.out _ _ hs4 (fun hHeld=>?_)
        clear hK0 K0 hs4 x4
        try simp only [sT,Act.put]
        refine rd1 4 (by kernel_rfl) rfl (fun K0 hK0=>?_)
        obtain ⟨hs4,x4⟩:=HSx.out _ HK5.out
        go_simp
        refine hK0.out _ _ hs4 (fun hHeld=>?_)
        clear hK0 K0 hs4 x4
        try simp only [sT,Act.put]
        refine rd1 27 (by kernel_rfl) rfl (fun K0 hK0=>?_)
        rw [if_pos (by rfl)]
        refine Rk.appO rkO _ _ rfl (.slice ax X'.length cx) X' rfl (Rk.kept HR.out HK5.out (by simp)) ⟨w4.heap.size,0,none⟩ 1 1 [⟨y.n,y.b.take m,m,a5,k5⟩] rfl rfl (Rk.news HB5.out) (by have:=HXL.out;simp;omega) ?_
        intro v7 w7 hR7 hg7 hf7
        have hK57:Kept (Value.slice ax X'.length cx).ownBlock.toList (w4.alloc (.cells #[.string (str y.n),.slice a5 m k5,.int .i64 m] 73)) w7:=(Kept.refl _ _).grown hg7 (by intro k hk;left;rw [hk];simp)
        have hK7:Kept (Value.slice ax X'.length cx).ownBlock.toList wb w7:=(HK5.out.mono (by simp)).trans hK57 (fun q hq=>.inl hq)
        have hs7:=HSv.out w7 hK7
        have hsz5:wb.heap.size≤w4.heap.size:=HK4.out.size
        have e2:(y.b.take m).length=m:=by rw [List.length_take];have:=HML.out;omega
        have hv4:∀ q,(Fm.v ⟨y.n,y.b.take m,m,a5,k5⟩).ownBlock=some q→wb.heap.size≤q∧q < w4.heap.size:=fun q hq=>by
         have hq':(Value.slice a5 m k5).ownBlock=some q:=by
          have h9:=hq
          unfold Fm.v at h9
          simp only at h9
          rw [e2] at h9
          exact h9
         exact ⟨HF4.out q hq',(World.ownsRow.lt HO4.out q hq').2⟩
        have hx7:Own w7 (Fm.v ⟨y.n,y.b.take m,m,a5,k5⟩) (y.b.take m):=by
         have h1:Own w7 (.slice a5 m k5) (y.b.take m):=hK57.ownsRow (((Kept.refl [] w4).alloc _).ownsRow HO4.out (by simp)) (fun q hq hm=>by
          have h2:=HF4.out q hq
          have h3:=H'.out.lt q (H'.out.vO (by simpa using hm)).1
          omega)
         show Own w7 (.slice a5 (y.b.take m).length k5) _
         rw [e2];exact h1
        have hxf:∀ q,(Fm.v ⟨y.n,y.b.take m,m,a5,k5⟩).ownBlock=some q→wb.heap.size≤q∧q < w7.heap.size:=fun q hq=>⟨(hv4 q hq).1,by have h1:=(hv4 q hq).2;have h2:=hK57.size;simp at h2;omega⟩
        have hff:∀ q,v7.ownBlock=some q→(Value.slice ax X'.length cx).ownBlock=some q∨wb.heap.size≤q:=fun q hq=>by
         rcases hf7 q hq with h1 | h1
         ·exact .inl h1
         ·simp at h1;exact .inr (by omega)
        have hnn:∀ q,(Fm.v ⟨y.n,y.b.take m,m,a5,k5⟩).ownBlock=some q→v7.ownBlock≠some q:=fun q hq hm=>by
         have h0:=(hv4 q hq)
         rcases hf7 q hm with h1 | h1
         ·have:=H'.out.lt q (H'.out.vO h1).1;omega
         ·simp at h1;omega
        have HFP:Hid (FdP w.heap.size wb Oi ⟨crsL ((X.map Fm.fl).take i) K++[⟨y.n,y.b.take m,m⟩],0,-1,false⟩ (w7.setCell ⟨w.heap.size,0,none⟩ v7)):=AtF.push H'.out hK7 ⟨y.n,y.b.take m,m,a5,k5⟩ hx7 hxf hR7 hff hnn
        have hl7:(X'++[(⟨y.n,y.b.take m,m,a5,k5⟩:Fm)]).length=X'.length+1:=by simp
        have hb7:w.heap.size ∉ (Value.slice ax X'.length cx).ownBlock.toList:=fun hm=>(H'.out.vO (by simpa using hm)).2 rfl
        have x7:=(H'.out.h.kept hK7 hb7).cell 0 rfl
        have z7:=(H'.out.h.kept hK7 hb7).froz 0
        obtain ⟨a7,c7,hv7,_⟩:=Rk.shape hR7
        subst hv7
        have HK7:=hide hK7
        rw [hl7] at HFP
        try rw [hl7]
        generalize X'.length+1=n7 at HFP ⊢
        clear hR7 hg7 hf7 hK57 hK7 hv4 hx7 hHeld hb7 hxf hff hnn hl7 e2
        refine hK0.out _ _ hs7 (fun hHeld=>?_)
        clear hK0 K0
        try simp only [sT,Act.put]
        refine tks [28,29] (by rfl) (by kernel_rfl) (fun _ _ _ _ _ h=>h) hHeld ?_
        iterate 2
         refine yk ?_ rfl (Or.inl ⟨by rfl,?_⟩) ?_
         rotate_left
         ·intro w9 hSw;obtain ⟨m0,m1,m2⟩:=hSw;go_simp;(try with_reducible rfl)
         try simp only [sT,Act.put]
        refine yk0 ?_
        simp only [setK,sT]
        refine rd1 30 (by kernel_rfl) rfl (fun K0 hK0=>?_)
        go_simp
        have hs8:=HSw.out w7 HK7.out (.slice a7 n7 c7)
        refine hK0.out _ _ hs8 (fun hHeld=>?_)
        clear hK0 K0 hs7 hs8 x7 z7
        try simp only [sT,Act.put]
        refine wpAnyH_done (by kernel_rfl) ?_ _
        clear hHeld
        generalize w7.setCell ⟨w.heap.size,0,none⟩ (.slice a7 n7 c7)=w8 at HFP ⊢
        obtain ⟨O8,hA8,hk8,hn8⟩:=HFP.out
        have HA8:Hid (AtF w8 O8 w.heap.size ⟨crsL ((X.map Fm.fl).take (i+1)) K,0,-1,false⟩):=by show AtF _ _ _ _;rw [HNX.out];exact hA8
        have HK8:=hide (HKb.out.trans hk8 (fun k hk=>.inr (HNi.out k hk)))
        have HN8:Hid (∀ k∈O8,w.heap.size≤k):=fun k hk=>by
         rcases hn8 k hk with h1 | h1
         ·exact HNi.out k h1
         ·have:=HKb.out.size;omega
        clear hA8 hk8 hn8
        go_wp2_with fail
        go_roundw
        case rel=>exact ⟨i+1,O8,by go_num,by omega,HA8,HK8,HN8⟩
        case measure=>simp [intOf];omega
    ·have HKN:Hid (keptN y.fl K[i]?=y.l):=by
      show _=_
      rw [HKG.out]
      show keptF y.fl z=_
      unfold keptF
      rw [if_neg hpos];rfl
     go_upto_region 8 with fail
     obtain ⟨m,hml⟩:∃ m,m=y.l:=⟨_,rfl⟩
     have HML:Hid (m≤y.b.length):=by rw [hml];exact HLL.out
     have HNX:Hid (crsL ((X.map Fm.fl).take (i+1)) K=crsL ((X.map Fm.fl).take i) K++[⟨y.n,y.b.take m,m⟩]):=by show _=_;rw [HN0.out,HKN.out,hml]
     rw [← hml]
     clear hml e2 e1 c0 HN0 HKN hik hik' hpos k0
     obtain ⟨wb,hwb⟩:∃ wb,wb=wr:=⟨_,rfl⟩
     rw [← hwb]
     have HKb:Hid (Kept [] w wb):=by rw [hwb];exact HKi.out
     obtain ⟨vx,X',h'⟩:AtF wb Oi w.heap.size ⟨crsL ((X.map Fm.fl).take i) K,0,-1,false⟩:=by rw [hwb];exact HAi.out
     obtain ⟨ax,cx,hvx,_,_,_,_⟩:=Rk.shape h'.r
     subst hvx
     have c0:wb.cell? ⟨p,0,none⟩=some (.slice (some ⟨g,0,none⟩) X.length c):=(HH.out.h.kept HKb.out (by simp)).cell 0 rfl
     have e0:wb.cell? ⟨g,i*3,none⟩=some (.string (str y.n)):=(range_keptF HEL.out HKb.out (by simp)) 0 _ rfl
     have e1:wb.cell? ⟨g,i*3+1,none⟩=some (.slice y.ao y.b.length y.c):=(range_keptF HEL.out HKb.out (by simp)) 1 _ rfl
     have H':=hide h'
     have HR:=hide h'.r
     have HXL:Hid (X'.length≤10000000):=by
      show _≤_
      rw [h'.len]
      show (crsL _ K).length≤_
      rw [crsL_len,List.length_take]
      omega
     have hpw:p < w.heap.size:=HH.out.h.lt
     have hgw:g < w.heap.size:=HH.out.lt g (HH.out.vO rfl).1
     have hvw:∀ q∈(Value.slice ax X'.length cx).ownBlock.toList,w.heap.size≤q:=fun q hq=>HNi.out q (h'.vO (by simpa using hq)).1
     have HSv:Hid (∀ W,Kept (Value.slice ax X'.length cx).ownBlock.toList wb W→W.cell? ⟨p,0,none⟩=some (.slice (some ⟨g,0,none⟩) X.length c)∧W.cell? ⟨g,i*3,none⟩=some (.string (str y.n))∧W.cell? ⟨g,i*3+1,none⟩=some (.slice y.ao y.b.length y.c)):=fun W hk =>
      ⟨hk.cell c0 (fun hm=>by have:=hvw _ hm;simp at this;omega),hk.cell e0 (fun hm=>by have:=hvw _ hm;simp at this;omega),hk.cell e1 (fun hm=>by have:=hvw _ hm;simp at this;omega)⟩
     have HSw:Hid (∀ W,Kept (Value.slice ax X'.length cx).ownBlock.toList wb W→∀ u,(W.setCell ⟨w.heap.size,0,none⟩ u).cell? ⟨p,0,none⟩=some (.slice (some ⟨g,0,none⟩) X.length c)∧(W.setCell ⟨w.heap.size,0,none⟩ u).cell? ⟨g,i*3,none⟩=some (.string (str y.n))∧(W.setCell ⟨w.heap.size,0,none⟩ u).cell? ⟨g,i*3+1,none⟩=some (.slice y.ao y.b.length y.c)):=fun W hk u=>by
      obtain ⟨h1,h2,h3⟩:=HSv.out W hk
      have k9:Kept [w.heap.size] W (W.setCell ⟨w.heap.size,0,none⟩ u):=(Kept.refl _ _).setCell (by simp) _
      exact ⟨k9.cell h1 (by simp;omega),k9.cell h2 (by simp;omega),k9.cell h3 (by simp;omega)⟩
     have HSx:Hid (∀ W,Kept [] wb W→(W.cell? ⟨p,0,none⟩=some (.slice (some ⟨g,0,none⟩) X.length c)∧W.cell? ⟨g,i*3,none⟩=some (.string (str y.n))∧W.cell? ⟨g,i*3+1,none⟩=some (.slice y.ao y.b.length y.c))∧W.cell? ⟨w.heap.size,0,none⟩=some (.slice ax X'.length cx)):=fun W hk=>⟨HSv.out W (hk.mono (by simp)),(h'.h.kept hk (by simp)).cell 0 rfl⟩
     have HKd:Hid (Kept [] wb wb.drew):=(Kept.refl [] wb).drew
     have cC:=hide (fun (W:World) (k:Kept [] wb W)=>copy_call W _ _ _ _ ((Sl.kept (HKb.out.trans k (by simp)) (Fm.sl HYO.out) (by simp)).take HML.out) (by have:=HYL.out;have:=HML.out;omega))
     have hmc:m≤y.c:=by have h1:=(Fm.sl HYO.out).2.1;have:=HML.out;omega
     have hm0:0≤(m:Int):=by omega
     clear h' hwb hpw hgw hvw
     go_upto_region 8 with fail
     refine wp_region_held_drew (S:=fun w9=>w9.cell? ⟨p,0,none⟩=some (.slice (some ⟨g,0,none⟩) X.length c)∧w9.cell? ⟨g,i*3,none⟩=some (.string (str y.n))∧w9.cell? ⟨g,i*3+1,none⟩=some (.slice y.ao y.b.length y.c)) (by kernel_rfl) ⟨c0,e0,e1⟩ (fun hHeld=>?_)
     try simp only [List.append_eq,List.cons_append,List.nil_append]
     refine tks [0,1,2,3,5,6,7,8,9,10,11,12,13,14,15,16,17,18,19,20,21,22,24] (by rfl) (by kernel_rfl) (fun _ _ _ _ _ h=>h) hHeld ?_
     iterate 23
      refine yk ?_ rfl (Or.inl ⟨by rfl,?_⟩) ?_
      rotate_left
      ·intro w9 hSw;obtain ⟨m0,m1,m2⟩:=hSw;go_simp;(try with_reducible rfl)
      try simp only [sT,Act.put]
     refine yk0 ?_
     simp only [setK,sT]
     refine wpAnyH_ready (rs:=[4,23]) (by kernel_rfl) (by simp) (AllReadyH.cons rfl (fun K0 hK0=>?_) (AllReadyH.cons rfl (fun K0 hK0=>?_) AllReadyH.nil))
     ·obtain ⟨hs4,x4⟩:=HSx.out _ HKd.out
      go_simp
      refine hK0.out _ _ hs4 (fun hHeld=>?_)
      clear hK0 K0 hs4 x4
      try simp only [sT,Act.put]
      refine rd1 23 (by kernel_rfl) rfl (fun K0 hK0=>?_)
      go_simp
      refine (cC.out _ HKd.out).mono ?_
      rintro _ w4 ⟨v4,rfl,hO4,hf4,hk4⟩
      have hK4:Kept [] wb w4:=HKd.out.trans hk4 (by simp)
      obtain ⟨a5,n5,k5,rfl,hs5,_⟩:=own_sl hO4
      have hn5:m=n5:=by rw [← hs5.1,List.length_take];have:=HML.out;omega
      subst hn5
      have HK4:=hide hK4
      have HO4:=hide hO4
      have HF4:Hid (∀ q,(Value.slice a5 m k5).ownBlock=some q→wb.heap.size≤q):=fun q hq=>by have h1:=hf4 q hq;have h2:=HKd.out.size;omega
      have HB5:Hid (Bx (w4.alloc (.cells #[.string (str y.n),.slice a5 m k5,.int .i64 m] 73)) w4.heap.size 73 (foC ⟨y.n,y.b.take m,m,a5,k5⟩)):=by
       have e:foC ⟨y.n,y.b.take m,m,a5,k5⟩=[.string (str y.n),.slice a5 m k5,.int .i64 m]:=by
        unfold foC Fm.v
        have e2:(y.b.take m).length=m:=by rw [List.length_take];have:=HML.out;omega
        simp only [e2]
       rw [e];exact Bx.new w4 _ _
      have HK5:Hid (Kept [] wb (w4.alloc (.cells #[.string (str y.n),.slice a5 m k5,.int .i64 m] 73))):=hK4.alloc _
      obtain ⟨hs4,x4⟩:=HSx.out w4 hK4
      clear hO4 hf4 hk4 hK4 hs5 hHeld
      go_wp2_with fail
      refine hK0.out _ _ hs4 (fun hHeld=>?_)
      clear hK0 K0 hs4 x4
      try simp only [sT,Act.put]
      refine tks [25] (by rfl) (by kernel_rfl) (fun _ _ _ _ _ h=>h) hHeld ?_
      iterate 1
       refine yk ?_ rfl (Or.inl ⟨by rfl,?_⟩) ?_
       rotate_left
       ·intro w9 hSw;obtain ⟨m0,m1,m2⟩:=hSw;go_simp;(try with_reducible rfl)
       try simp only [sT,Act.put]
      refine yk0 ?_
      simp only [setK,sT]
      refine rd1 26 (by kernel_rfl) rfl (fun K0 hK0=>?_)
      go_simp
      obtain ⟨hs4,x4⟩:=HSx.out _ HK5.out
      refine hK0.out _ _ hs4 (fun hHeld=>?_)
      clear hK0 K0 hs4 x4
      try simp only [sT,Act.put]
      refine rd1 27 (by kernel_rfl) rfl (fun K0 hK0=>?_)
      rw [if_pos (by rfl)]
      refine Rk.appO rkO _ _ rfl (.slice ax X'.length cx) X' rfl (Rk.kept HR.out HK5.out (by simp)) ⟨w4.heap.size,0,none⟩ 1 1 [⟨y.n,y.b.take m,m,a5,k5⟩] rfl rfl (Rk.news HB5.out) (by have:=HXL.out;simp;omega) ?_
      intro v7 w7 hR7 hg7 hf7
      have hK57:Kept (Value.slice ax X'.length cx).ownBlock.toList (w4.alloc (.cells #[.string (str y.n),.slice a5 m k5,.int .i64 m] 73)) w7:=(Kept.refl _ _).grown hg7 (by intro k hk;left;rw [hk];simp)
      have hK7:Kept (Value.slice ax X'.length cx).ownBlock.toList wb w7:=(HK5.out.mono (by simp)).trans hK57 (fun q hq=>.inl hq)
      have hs7:=HSv.out w7 hK7
      have hsz5:wb.heap.size≤w4.heap.size:=HK4.out.size
      have e2:(y.b.take m).length=m:=by rw [List.length_take];have:=HML.out;omega
      have hv4:∀ q,(Fm.v ⟨y.n,y.b.take m,m,a5,k5⟩).ownBlock=some q→wb.heap.size≤q∧q < w4.heap.size:=fun q hq=>by
       have hq':(Value.slice a5 m k5).ownBlock=some q:=by
        have h9:=hq
        unfold Fm.v at h9
        simp only at h9
        rw [e2] at h9
        exact h9
       exact ⟨HF4.out q hq',(World.ownsRow.lt HO4.out q hq').2⟩
      have hx7:Own w7 (Fm.v ⟨y.n,y.b.take m,m,a5,k5⟩) (y.b.take m):=by
       have h1:Own w7 (.slice a5 m k5) (y.b.take m):=hK57.ownsRow (((Kept.refl [] w4).alloc _).ownsRow HO4.out (by simp)) (fun q hq hm=>by
        have h2:=HF4.out q hq
        have h3:=H'.out.lt q (H'.out.vO (by simpa using hm)).1
        omega)
       show Own w7 (.slice a5 (y.b.take m).length k5) _
       rw [e2];exact h1
      have hxf:∀ q,(Fm.v ⟨y.n,y.b.take m,m,a5,k5⟩).ownBlock=some q→wb.heap.size≤q∧q < w7.heap.size:=fun q hq=>⟨(hv4 q hq).1,by have h1:=(hv4 q hq).2;have h2:=hK57.size;simp at h2;omega⟩
      have hff:∀ q,v7.ownBlock=some q→(Value.slice ax X'.length cx).ownBlock=some q∨wb.heap.size≤q:=fun q hq=>by
       rcases hf7 q hq with h1 | h1
       ·exact .inl h1
       ·simp at h1;exact .inr (by omega)
      have hnn:∀ q,(Fm.v ⟨y.n,y.b.take m,m,a5,k5⟩).ownBlock=some q→v7.ownBlock≠some q:=fun q hq hm=>by
       have h0:=(hv4 q hq)
       rcases hf7 q hm with h1 | h1
       ·have:=H'.out.lt q (H'.out.vO h1).1;omega
       ·simp at h1;omega
      have HFP:Hid (FdP w.heap.size wb Oi ⟨crsL ((X.map Fm.fl).take i) K++[⟨y.n,y.b.take m,m⟩],0,-1,false⟩ (w7.setCell ⟨w.heap.size,0,none⟩ v7)):=AtF.push H'.out hK7 ⟨y.n,y.b.take m,m,a5,k5⟩ hx7 hxf hR7 hff hnn
      have hl7:(X'++[(⟨y.n,y.b.take m,m,a5,k5⟩:Fm)]).length=X'.length+1:=by simp
      have hb7:w.heap.size ∉ (Value.slice ax X'.length cx).ownBlock.toList:=fun hm=>(H'.out.vO (by simpa using hm)).2 rfl
      have x7:=(H'.out.h.kept hK7 hb7).cell 0 rfl
      have z7:=(H'.out.h.kept hK7 hb7).froz 0
      obtain ⟨a7,c7,hv7,_⟩:=Rk.shape hR7
      subst hv7
      have HK7:=hide hK7
      rw [hl7] at HFP
      try rw [hl7]
      generalize X'.length+1=n7 at HFP ⊢
      clear hR7 hg7 hf7 hK57 hK7 hv4 hx7 hHeld hb7 hxf hff hnn hl7 e2
      refine hK0.out _ _ hs7 (fun hHeld=>?_)
      clear hK0 K0
      try simp only [sT,Act.put]
      refine tks [28,29] (by rfl) (by kernel_rfl) (fun _ _ _ _ _ h=>h) hHeld ?_
      iterate 2
       refine yk ?_ rfl (Or.inl ⟨by rfl,?_⟩) ?_
       rotate_left
       ·intro w9 hSw;obtain ⟨m0,m1,m2⟩:=hSw;go_simp;(try with_reducible rfl)
       try simp only [sT,Act.put]
      refine yk0 ?_
      simp only [setK,sT]
      refine rd1 30 (by kernel_rfl) rfl (fun K0 hK0=>?_)
      go_simp
      have hs8:=HSw.out w7 HK7.out (.slice a7 n7 c7)
      refine hK0.out _ _ hs8 (fun hHeld=>?_)
      clear hK0 K0 hs7 hs8 x7 z7
      try simp only [sT,Act.put]
      refine wpAnyH_done (by kernel_rfl) ?_ _
      clear hHeld
      generalize w7.setCell ⟨w.heap.size,0,none⟩ (.slice a7 n7 c7)=w8 at HFP ⊢
      obtain ⟨O8,hA8,hk8,hn8⟩:=HFP.out
      have HA8:Hid (AtF w8 O8 w.heap.size ⟨crsL ((X.map Fm.fl).take (i+1)) K,0,-1,false⟩):=by show AtF _ _ _ _;rw [HNX.out];exact hA8
      have HK8:=hide (HKb.out.trans hk8 (fun k hk=>.inr (HNi.out k hk)))
      have HN8:Hid (∀ k∈O8,w.heap.size≤k):=fun k hk=>by
       rcases hn8 k hk with h1 | h1
       ·exact HNi.out k h1
       ·have:=HKb.out.size;omega
      clear hA8 hk8 hn8
      go_wp2_with fail
      go_roundw
      case rel=>exact ⟨i+1,O8,by go_num,by omega,HA8,HK8,HN8⟩
      case measure=>simp [intOf];omega
     ·go_simp
      refine (cC.out _ HKd.out).mono ?_
      rintro _ w4 ⟨v4,rfl,hO4,hf4,hk4⟩
      have hK4:Kept [] wb w4:=HKd.out.trans hk4 (by simp)
      obtain ⟨a5,n5,k5,rfl,hs5,_⟩:=own_sl hO4
      have hn5:m=n5:=by rw [← hs5.1,List.length_take];have:=HML.out;omega
      subst hn5
      have HK4:=hide hK4
      have HO4:=hide hO4
      have HF4:Hid (∀ q,(Value.slice a5 m k5).ownBlock=some q→wb.heap.size≤q):=fun q hq=>by have h1:=hf4 q hq;have h2:=HKd.out.size;omega
      have HB5:Hid (Bx (w4.alloc (.cells #[.string (str y.n),.slice a5 m k5,.int .i64 m] 73)) w4.heap.size 73 (foC ⟨y.n,y.b.take m,m,a5,k5⟩)):=by
       have e:foC ⟨y.n,y.b.take m,m,a5,k5⟩=[.string (str y.n),.slice a5 m k5,.int .i64 m]:=by
        unfold foC Fm.v
        have e2:(y.b.take m).length=m:=by rw [List.length_take];have:=HML.out;omega
        simp only [e2]
       rw [e];exact Bx.new w4 _ _
      have HK5:Hid (Kept [] wb (w4.alloc (.cells #[.string (str y.n),.slice a5 m k5,.int .i64 m] 73))):=hK4.alloc _
      obtain ⟨hs4,x4⟩:=HSx.out w4 hK4
      clear hO4 hf4 hk4 hK4 hs5 hHeld
      go_wp2_with fail
      refine hK0.out _ _ hs4 (fun hHeld=>?_)
      clear hK0 K0 hs4 x4
      try simp only [sT,Act.put]
      refine tks [25] (by rfl) (by kernel_rfl) (fun _ _ _ _ _ h=>h) hHeld ?_
      iterate 1
       refine yk ?_ rfl (Or.inl ⟨by rfl,?_⟩) ?_
       rotate_left
       ·intro w9 hSw;obtain ⟨m0,m1,m2⟩:=hSw;go_simp;(try with_reducible rfl)
       try simp only [sT,Act.put]
      refine yk0 ?_
      simp only [setK,sT]
      refine wpAnyH_ready (rs:=[4,26]) (by kernel_rfl) (by simp) (AllReadyH.cons rfl (fun K0 hK0=>?_) (AllReadyH.cons rfl (fun K0 hK0=>?_) AllReadyH.nil))
      ·obtain ⟨hs4,x4⟩:=HSx.out _ HK4.out
       go_simp
       refine hK0.out _ _ hs4 (fun hHeld=>?_)
       clear hK0 K0 hs4 x4
       try simp only [sT,Act.put]
       refine rd1 26 (by kernel_rfl) rfl (fun K0 hK0=>?_)
       go_simp
       obtain ⟨hs4,x4⟩:=HSx.out _ HK5.out
       refine hK0.out _ _ hs4 (fun hHeld=>?_)
       clear hK0 K0 hs4 x4
       try simp only [sT,Act.put]
       refine rd1 27 (by kernel_rfl) rfl (fun K0 hK0=>?_)
       rw [if_pos (by rfl)]
       refine Rk.appO rkO _ _ rfl (.slice ax X'.length cx) X' rfl (Rk.kept HR.out HK5.out (by simp)) ⟨w4.heap.size,0,none⟩ 1 1 [⟨y.n,y.b.take m,m,a5,k5⟩] rfl rfl (Rk.news HB5.out) (by have:=HXL.out;simp;omega) ?_
       intro v7 w7 hR7 hg7 hf7
       have hK57:Kept (Value.slice ax X'.length cx).ownBlock.toList (w4.alloc (.cells #[.string (str y.n),.slice a5 m k5,.int .i64 m] 73)) w7:=(Kept.refl _ _).grown hg7 (by intro k hk;left;rw [hk];simp)
       have hK7:Kept (Value.slice ax X'.length cx).ownBlock.toList wb w7:=(HK5.out.mono (by simp)).trans hK57 (fun q hq=>.inl hq)
       have hs7:=HSv.out w7 hK7
       have hsz5:wb.heap.size≤w4.heap.size:=HK4.out.size
       have e2:(y.b.take m).length=m:=by rw [List.length_take];have:=HML.out;omega
       have hv4:∀ q,(Fm.v ⟨y.n,y.b.take m,m,a5,k5⟩).ownBlock=some q→wb.heap.size≤q∧q < w4.heap.size:=fun q hq=>by
        have hq':(Value.slice a5 m k5).ownBlock=some q:=by
         have h9:=hq
         unfold Fm.v at h9
         simp only at h9
         rw [e2] at h9
         exact h9
        exact ⟨HF4.out q hq',(World.ownsRow.lt HO4.out q hq').2⟩
       have hx7:Own w7 (Fm.v ⟨y.n,y.b.take m,m,a5,k5⟩) (y.b.take m):=by
        have h1:Own w7 (.slice a5 m k5) (y.b.take m):=hK57.ownsRow (((Kept.refl [] w4).alloc _).ownsRow HO4.out (by simp)) (fun q hq hm=>by
         have h2:=HF4.out q hq
         have h3:=H'.out.lt q (H'.out.vO (by simpa using hm)).1
         omega)
        show Own w7 (.slice a5 (y.b.take m).length k5) _
        rw [e2];exact h1
       have hxf:∀ q,(Fm.v ⟨y.n,y.b.take m,m,a5,k5⟩).ownBlock=some q→wb.heap.size≤q∧q < w7.heap.size:=fun q hq=>⟨(hv4 q hq).1,by have h1:=(hv4 q hq).2;have h2:=hK57.size;simp at h2;omega⟩
       have hff:∀ q,v7.ownBlock=some q→(Value.slice ax X'.length cx).ownBlock=some q∨wb.heap.size≤q:=fun q hq=>by
        rcases hf7 q hq with h1 | h1
        ·exact .inl h1
        ·simp at h1;exact .inr (by omega)
       have hnn:∀ q,(Fm.v ⟨y.n,y.b.take m,m,a5,k5⟩).ownBlock=some q→v7.ownBlock≠some q:=fun q hq hm=>by
        have h0:=(hv4 q hq)
        rcases hf7 q hm with h1 | h1
        ·have:=H'.out.lt q (H'.out.vO h1).1;omega
        ·simp at h1;omega
       have HFP:Hid (FdP w.heap.size wb Oi ⟨crsL ((X.map Fm.fl).take i) K++[⟨y.n,y.b.take m,m⟩],0,-1,false⟩ (w7.setCell ⟨w.heap.size,0,none⟩ v7)):=AtF.push H'.out hK7 ⟨y.n,y.b.take m,m,a5,k5⟩ hx7 hxf hR7 hff hnn
       have hl7:(X'++[(⟨y.n,y.b.take m,m,a5,k5⟩:Fm)]).length=X'.length+1:=by simp
       have hb7:w.heap.size ∉ (Value.slice ax X'.length cx).ownBlock.toList:=fun hm=>(H'.out.vO (by simpa using hm)).2 rfl
       have x7:=(H'.out.h.kept hK7 hb7).cell 0 rfl
       have z7:=(H'.out.h.kept hK7 hb7).froz 0
       obtain ⟨a7,c7,hv7,_⟩:=Rk.shape hR7
       subst hv7
       have HK7:=hide hK7
       rw [hl7] at HFP
       try rw [hl7]
       generalize X'.length+1=n7 at HFP ⊢
       clear hR7 hg7 hf7 hK57 hK7 hv4 hx7 hHeld hb7 hxf hff hnn hl7 e2
       refine hK0.out _ _ hs7 (fun hHeld=>?_)
       clear hK0 K0
       try simp only [sT,Act.put]
       refine tks [28,29] (by rfl) (by kernel_rfl) (fun _ _ _ _ _ h=>h) hHeld ?_
       iterate 2
        refine yk ?_ rfl (Or.inl ⟨by rfl,?_⟩) ?_
        rotate_left
        ·intro w9 hSw;obtain ⟨m0,m1,m2⟩:=hSw;go_simp;(try with_reducible rfl)
        try simp only [sT,Act.put]
       refine yk0 ?_
       simp only [setK,sT]
       refine rd1 30 (by kernel_rfl) rfl (fun K0 hK0=>?_)
       go_simp
       have hs8:=HSw.out w7 HK7.out (.slice a7 n7 c7)
       refine hK0.out _ _ hs8 (fun hHeld=>?_)
       clear hK0 K0 hs7 hs8 x7 z7
       try simp only [sT,Act.put]
       refine wpAnyH_done (by kernel_rfl) ?_ _
       clear hHeld
       generalize w7.setCell ⟨w.heap.size,0,none⟩ (.slice a7 n7 c7)=w8 at HFP ⊢
       obtain ⟨O8,hA8,hk8,hn8⟩:=HFP.out
       have HA8:Hid (AtF w8 O8 w.heap.size ⟨crsL ((X.map Fm.fl).take (i+1)) K,0,-1,false⟩):=by show AtF _ _ _ _;rw [HNX.out];exact hA8
       have HK8:=hide (HKb.out.trans hk8 (fun k hk=>.inr (HNi.out k hk)))
       have HN8:Hid (∀ k∈O8,w.heap.size≤k):=fun k hk=>by
        rcases hn8 k hk with h1 | h1
        ·exact HNi.out k h1
        ·have:=HKb.out.size;omega
       clear hA8 hk8 hn8
       go_wp2_with fail
       go_roundw
       case rel=>exact ⟨i+1,O8,by go_num,by omega,HA8,HK8,HN8⟩
       case measure=>simp [intOf];omega
      ·go_simp
       obtain ⟨hs4,x4⟩:=HSx.out _ HK5.out
       refine hK0.out _ _ hs4 (fun hHeld=>?_)
       clear hK0 K0 hs4 x4
       try simp only [sT,Act.put]
       refine rd1 4 (by kernel_rfl) rfl (fun K0 hK0=>?_)
       obtain ⟨hs4,x4⟩:=HSx.out _ HK5.out
       go_simp
       refine hK0.out _ _ hs4 (fun hHeld=>?_)
       clear hK0 K0 hs4 x4
       try simp only [sT,Act.put]
       refine rd1 27 (by kernel_rfl) rfl (fun K0 hK0=>?_)
       rw [if_pos (by rfl)]
       refine Rk.appO rkO _ _ rfl (.slice ax X'.length cx) X' rfl (Rk.kept HR.out HK5.out (by simp)) ⟨w4.heap.size,0,none⟩ 1 1 [⟨y.n,y.b.take m,m,a5,k5⟩] rfl rfl (Rk.news HB5.out) (by have:=HXL.out;simp;omega) ?_
       intro v7 w7 hR7 hg7 hf7
       have hK57:Kept (Value.slice ax X'.length cx).ownBlock.toList (w4.alloc (.cells #[.string (str y.n),.slice a5 m k5,.int .i64 m] 73)) w7:=(Kept.refl _ _).grown hg7 (by intro k hk;left;rw [hk];simp)
       have hK7:Kept (Value.slice ax X'.length cx).ownBlock.toList wb w7:=(HK5.out.mono (by simp)).trans hK57 (fun q hq=>.inl hq)
       have hs7:=HSv.out w7 hK7
       have hsz5:wb.heap.size≤w4.heap.size:=HK4.out.size
       have e2:(y.b.take m).length=m:=by rw [List.length_take];have:=HML.out;omega
       have hv4:∀ q,(Fm.v ⟨y.n,y.b.take m,m,a5,k5⟩).ownBlock=some q→wb.heap.size≤q∧q < w4.heap.size:=fun q hq=>by
        have hq':(Value.slice a5 m k5).ownBlock=some q:=by
         have h9:=hq
         unfold Fm.v at h9
         simp only at h9
         rw [e2] at h9
         exact h9
        exact ⟨HF4.out q hq',(World.ownsRow.lt HO4.out q hq').2⟩
       have hx7:Own w7 (Fm.v ⟨y.n,y.b.take m,m,a5,k5⟩) (y.b.take m):=by
        have h1:Own w7 (.slice a5 m k5) (y.b.take m):=hK57.ownsRow (((Kept.refl [] w4).alloc _).ownsRow HO4.out (by simp)) (fun q hq hm=>by
         have h2:=HF4.out q hq
         have h3:=H'.out.lt q (H'.out.vO (by simpa using hm)).1
         omega)
        show Own w7 (.slice a5 (y.b.take m).length k5) _
        rw [e2];exact h1
       have hxf:∀ q,(Fm.v ⟨y.n,y.b.take m,m,a5,k5⟩).ownBlock=some q→wb.heap.size≤q∧q < w7.heap.size:=fun q hq=>⟨(hv4 q hq).1,by have h1:=(hv4 q hq).2;have h2:=hK57.size;simp at h2;omega⟩
       have hff:∀ q,v7.ownBlock=some q→(Value.slice ax X'.length cx).ownBlock=some q∨wb.heap.size≤q:=fun q hq=>by
        rcases hf7 q hq with h1 | h1
        ·exact .inl h1
        ·simp at h1;exact .inr (by omega)
       have hnn:∀ q,(Fm.v ⟨y.n,y.b.take m,m,a5,k5⟩).ownBlock=some q→v7.ownBlock≠some q:=fun q hq hm=>by
        have h0:=(hv4 q hq)
        rcases hf7 q hm with h1 | h1
        ·have:=H'.out.lt q (H'.out.vO h1).1;omega
        ·simp at h1;omega
       have HFP:Hid (FdP w.heap.size wb Oi ⟨crsL ((X.map Fm.fl).take i) K++[⟨y.n,y.b.take m,m⟩],0,-1,false⟩ (w7.setCell ⟨w.heap.size,0,none⟩ v7)):=AtF.push H'.out hK7 ⟨y.n,y.b.take m,m,a5,k5⟩ hx7 hxf hR7 hff hnn
       have hl7:(X'++[(⟨y.n,y.b.take m,m,a5,k5⟩:Fm)]).length=X'.length+1:=by simp
       have hb7:w.heap.size ∉ (Value.slice ax X'.length cx).ownBlock.toList:=fun hm=>(H'.out.vO (by simpa using hm)).2 rfl
       have x7:=(H'.out.h.kept hK7 hb7).cell 0 rfl
       have z7:=(H'.out.h.kept hK7 hb7).froz 0
       obtain ⟨a7,c7,hv7,_⟩:=Rk.shape hR7
       subst hv7
       have HK7:=hide hK7
       rw [hl7] at HFP
       try rw [hl7]
       generalize X'.length+1=n7 at HFP ⊢
       clear hR7 hg7 hf7 hK57 hK7 hv4 hx7 hHeld hb7 hxf hff hnn hl7 e2
       refine hK0.out _ _ hs7 (fun hHeld=>?_)
       clear hK0 K0
       try simp only [sT,Act.put]
       refine tks [28,29] (by rfl) (by kernel_rfl) (fun _ _ _ _ _ h=>h) hHeld ?_
       iterate 2
        refine yk ?_ rfl (Or.inl ⟨by rfl,?_⟩) ?_
        rotate_left
        ·intro w9 hSw;obtain ⟨m0,m1,m2⟩:=hSw;go_simp;(try with_reducible rfl)
        try simp only [sT,Act.put]
       refine yk0 ?_
       simp only [setK,sT]
       refine rd1 30 (by kernel_rfl) rfl (fun K0 hK0=>?_)
       go_simp
       have hs8:=HSw.out w7 HK7.out (.slice a7 n7 c7)
       refine hK0.out _ _ hs8 (fun hHeld=>?_)
       clear hK0 K0 hs7 hs8 x7 z7
       try simp only [sT,Act.put]
       refine wpAnyH_done (by kernel_rfl) ?_ _
       clear hHeld
       generalize w7.setCell ⟨w.heap.size,0,none⟩ (.slice a7 n7 c7)=w8 at HFP ⊢
       obtain ⟨O8,hA8,hk8,hn8⟩:=HFP.out
       have HA8:Hid (AtF w8 O8 w.heap.size ⟨crsL ((X.map Fm.fl).take (i+1)) K,0,-1,false⟩):=by show AtF _ _ _ _;rw [HNX.out];exact hA8
       have HK8:=hide (HKb.out.trans hk8 (fun k hk=>.inr (HNi.out k hk)))
       have HN8:Hid (∀ k∈O8,w.heap.size≤k):=fun k hk=>by
        rcases hn8 k hk with h1 | h1
        ·exact HNi.out k h1
        ·have:=HKb.out.size;omega
       clear hA8 hk8 hn8
       go_wp2_with fail
       go_roundw
       case rel=>exact ⟨i+1,O8,by go_num,by omega,HA8,HK8,HN8⟩
       case measure=>simp [intOf];omega
   ·have hik':¬ (i:Int) < kn:=by omega
    have HKN:Hid (keptN y.fl K[i]?=y.l):=by show _=_;rw [List.getElem?_eq_none (by rw [hkl];omega)];rfl
    go_upto_region 8 with fail
    obtain ⟨m,hml⟩:∃ m,m=y.l:=⟨_,rfl⟩
    have HML:Hid (m≤y.b.length):=by rw [hml];exact HLL.out
    have HNX:Hid (crsL ((X.map Fm.fl).take (i+1)) K=crsL ((X.map Fm.fl).take i) K++[⟨y.n,y.b.take m,m⟩]):=by show _=_;rw [HN0.out,HKN.out,hml]
    rw [← hml]
    clear hml e2 e1 c0 HN0 HKN hik hik'
    obtain ⟨wb,hwb⟩:∃ wb,wb=wr:=⟨_,rfl⟩
    rw [← hwb]
    have HKb:Hid (Kept [] w wb):=by rw [hwb];exact HKi.out
    obtain ⟨vx,X',h'⟩:AtF wb Oi w.heap.size ⟨crsL ((X.map Fm.fl).take i) K,0,-1,false⟩:=by rw [hwb];exact HAi.out
    obtain ⟨ax,cx,hvx,_,_,_,_⟩:=Rk.shape h'.r
    subst hvx
    have c0:wb.cell? ⟨p,0,none⟩=some (.slice (some ⟨g,0,none⟩) X.length c):=(HH.out.h.kept HKb.out (by simp)).cell 0 rfl
    have e0:wb.cell? ⟨g,i*3,none⟩=some (.string (str y.n)):=(range_keptF HEL.out HKb.out (by simp)) 0 _ rfl
    have e1:wb.cell? ⟨g,i*3+1,none⟩=some (.slice y.ao y.b.length y.c):=(range_keptF HEL.out HKb.out (by simp)) 1 _ rfl
    have H':=hide h'
    have HR:=hide h'.r
    have HXL:Hid (X'.length≤10000000):=by
     show _≤_
     rw [h'.len]
     show (crsL _ K).length≤_
     rw [crsL_len,List.length_take]
     omega
    have hpw:p < w.heap.size:=HH.out.h.lt
    have hgw:g < w.heap.size:=HH.out.lt g (HH.out.vO rfl).1
    have hvw:∀ q∈(Value.slice ax X'.length cx).ownBlock.toList,w.heap.size≤q:=fun q hq=>HNi.out q (h'.vO (by simpa using hq)).1
    have HSv:Hid (∀ W,Kept (Value.slice ax X'.length cx).ownBlock.toList wb W→W.cell? ⟨p,0,none⟩=some (.slice (some ⟨g,0,none⟩) X.length c)∧W.cell? ⟨g,i*3,none⟩=some (.string (str y.n))∧W.cell? ⟨g,i*3+1,none⟩=some (.slice y.ao y.b.length y.c)):=fun W hk =>
     ⟨hk.cell c0 (fun hm=>by have:=hvw _ hm;simp at this;omega),hk.cell e0 (fun hm=>by have:=hvw _ hm;simp at this;omega),hk.cell e1 (fun hm=>by have:=hvw _ hm;simp at this;omega)⟩
    have HSw:Hid (∀ W,Kept (Value.slice ax X'.length cx).ownBlock.toList wb W→∀ u,(W.setCell ⟨w.heap.size,0,none⟩ u).cell? ⟨p,0,none⟩=some (.slice (some ⟨g,0,none⟩) X.length c)∧(W.setCell ⟨w.heap.size,0,none⟩ u).cell? ⟨g,i*3,none⟩=some (.string (str y.n))∧(W.setCell ⟨w.heap.size,0,none⟩ u).cell? ⟨g,i*3+1,none⟩=some (.slice y.ao y.b.length y.c)):=fun W hk u=>by
     obtain ⟨h1,h2,h3⟩:=HSv.out W hk
     have k9:Kept [w.heap.size] W (W.setCell ⟨w.heap.size,0,none⟩ u):=(Kept.refl _ _).setCell (by simp) _
     exact ⟨k9.cell h1 (by simp;omega),k9.cell h2 (by simp;omega),k9.cell h3 (by simp;omega)⟩
    have HSx:Hid (∀ W,Kept [] wb W→(W.cell? ⟨p,0,none⟩=some (.slice (some ⟨g,0,none⟩) X.length c)∧W.cell? ⟨g,i*3,none⟩=some (.string (str y.n))∧W.cell? ⟨g,i*3+1,none⟩=some (.slice y.ao y.b.length y.c))∧W.cell? ⟨w.heap.size,0,none⟩=some (.slice ax X'.length cx)):=fun W hk=>⟨HSv.out W (hk.mono (by simp)),(h'.h.kept hk (by simp)).cell 0 rfl⟩
    have HKd:Hid (Kept [] wb wb.drew):=(Kept.refl [] wb).drew
    have cC:=hide (fun (W:World) (k:Kept [] wb W)=>copy_call W _ _ _ _ ((Sl.kept (HKb.out.trans k (by simp)) (Fm.sl HYO.out) (by simp)).take HML.out) (by have:=HYL.out;have:=HML.out;omega))
    have hmc:m≤y.c:=by have h1:=(Fm.sl HYO.out).2.1;have:=HML.out;omega
    have hm0:0≤(m:Int):=by omega
    clear h' hwb hpw hgw hvw
    go_upto_region 8 with fail
    refine wp_region_held_drew (S:=fun w9=>w9.cell? ⟨p,0,none⟩=some (.slice (some ⟨g,0,none⟩) X.length c)∧w9.cell? ⟨g,i*3,none⟩=some (.string (str y.n))∧w9.cell? ⟨g,i*3+1,none⟩=some (.slice y.ao y.b.length y.c)) (by kernel_rfl) ⟨c0,e0,e1⟩ (fun hHeld=>?_)
    try simp only [List.append_eq,List.cons_append,List.nil_append]
    refine tks [0,1,2,3,5,6,7,8,9,10,11,12,13,14,15,16,17,18,19,20,21,22,24] (by rfl) (by kernel_rfl) (fun _ _ _ _ _ h=>h) hHeld ?_
    iterate 23
     refine yk ?_ rfl (Or.inl ⟨by rfl,?_⟩) ?_
     rotate_left
     ·intro w9 hSw;obtain ⟨m0,m1,m2⟩:=hSw;go_simp;(try with_reducible rfl)
     try simp only [sT,Act.put]
    refine yk0 ?_
    simp only [setK,sT]
    refine wpAnyH_ready (rs:=[4,23]) (by kernel_rfl) (by simp) (AllReadyH.cons rfl (fun K0 hK0=>?_) (AllReadyH.cons rfl (fun K0 hK0=>?_) AllReadyH.nil))
    ·obtain ⟨hs4,x4⟩:=HSx.out _ HKd.out
     go_simp
     refine hK0.out _ _ hs4 (fun hHeld=>?_)
     clear hK0 K0 hs4 x4
     try simp only [sT,Act.put]
     refine rd1 23 (by kernel_rfl) rfl (fun K0 hK0=>?_)
     go_simp
     refine (cC.out _ HKd.out).mono ?_
     rintro _ w4 ⟨v4,rfl,hO4,hf4,hk4⟩
     have hK4:Kept [] wb w4:=HKd.out.trans hk4 (by simp)
     obtain ⟨a5,n5,k5,rfl,hs5,_⟩:=own_sl hO4
     have hn5:m=n5:=by rw [← hs5.1,List.length_take];have:=HML.out;omega
     subst hn5
     have HK4:=hide hK4
     have HO4:=hide hO4
     have HF4:Hid (∀ q,(Value.slice a5 m k5).ownBlock=some q→wb.heap.size≤q):=fun q hq=>by have h1:=hf4 q hq;have h2:=HKd.out.size;omega
     have HB5:Hid (Bx (w4.alloc (.cells #[.string (str y.n),.slice a5 m k5,.int .i64 m] 73)) w4.heap.size 73 (foC ⟨y.n,y.b.take m,m,a5,k5⟩)):=by
      have e:foC ⟨y.n,y.b.take m,m,a5,k5⟩=[.string (str y.n),.slice a5 m k5,.int .i64 m]:=by
       unfold foC Fm.v
       have e2:(y.b.take m).length=m:=by rw [List.length_take];have:=HML.out;omega
       simp only [e2]
      rw [e];exact Bx.new w4 _ _
     have HK5:Hid (Kept [] wb (w4.alloc (.cells #[.string (str y.n),.slice a5 m k5,.int .i64 m] 73))):=hK4.alloc _
     obtain ⟨hs4,x4⟩:=HSx.out w4 hK4
     clear hO4 hf4 hk4 hK4 hs5 hHeld
     go_wp2_with fail
     refine hK0.out _ _ hs4 (fun hHeld=>?_)
     clear hK0 K0 hs4 x4
     try simp only [sT,Act.put]
     refine tks [25] (by rfl) (by kernel_rfl) (fun _ _ _ _ _ h=>h) hHeld ?_
     iterate 1
      refine yk ?_ rfl (Or.inl ⟨by rfl,?_⟩) ?_
      rotate_left
      ·intro w9 hSw;obtain ⟨m0,m1,m2⟩:=hSw;go_simp;(try with_reducible rfl)
      try simp only [sT,Act.put]
     refine yk0 ?_
     simp only [setK,sT]
     refine rd1 26 (by kernel_rfl) rfl (fun K0 hK0=>?_)
     go_simp
     obtain ⟨hs4,x4⟩:=HSx.out _ HK5.out
     refine hK0.out _ _ hs4 (fun hHeld=>?_)
     clear hK0 K0 hs4 x4
     try simp only [sT,Act.put]
     refine rd1 27 (by kernel_rfl) rfl (fun K0 hK0=>?_)
     rw [if_pos (by rfl)]
     refine Rk.appO rkO _ _ rfl (.slice ax X'.length cx) X' rfl (Rk.kept HR.out HK5.out (by simp)) ⟨w4.heap.size,0,none⟩ 1 1 [⟨y.n,y.b.take m,m,a5,k5⟩] rfl rfl (Rk.news HB5.out) (by have:=HXL.out;simp;omega) ?_
     intro v7 w7 hR7 hg7 hf7
     have hK57:Kept (Value.slice ax X'.length cx).ownBlock.toList (w4.alloc (.cells #[.string (str y.n),.slice a5 m k5,.int .i64 m] 73)) w7:=(Kept.refl _ _).grown hg7 (by intro k hk;left;rw [hk];simp)
     have hK7:Kept (Value.slice ax X'.length cx).ownBlock.toList wb w7:=(HK5.out.mono (by simp)).trans hK57 (fun q hq=>.inl hq)
     have hs7:=HSv.out w7 hK7
     have hsz5:wb.heap.size≤w4.heap.size:=HK4.out.size
     have e2:(y.b.take m).length=m:=by rw [List.length_take];have:=HML.out;omega
     have hv4:∀ q,(Fm.v ⟨y.n,y.b.take m,m,a5,k5⟩).ownBlock=some q→wb.heap.size≤q∧q < w4.heap.size:=fun q hq=>by
      have hq':(Value.slice a5 m k5).ownBlock=some q:=by
       have h9:=hq
       unfold Fm.v at h9
       simp only at h9
       rw [e2] at h9
       exact h9
      exact ⟨HF4.out q hq',(World.ownsRow.lt HO4.out q hq').2⟩
     have hx7:Own w7 (Fm.v ⟨y.n,y.b.take m,m,a5,k5⟩) (y.b.take m):=by
      have h1:Own w7 (.slice a5 m k5) (y.b.take m):=hK57.ownsRow (((Kept.refl [] w4).alloc _).ownsRow HO4.out (by simp)) (fun q hq hm=>by
       have h2:=HF4.out q hq
       have h3:=H'.out.lt q (H'.out.vO (by simpa using hm)).1
       omega)
      show Own w7 (.slice a5 (y.b.take m).length k5) _
      rw [e2];exact h1
     have hxf:∀ q,(Fm.v ⟨y.n,y.b.take m,m,a5,k5⟩).ownBlock=some q→wb.heap.size≤q∧q < w7.heap.size:=fun q hq=>⟨(hv4 q hq).1,by have h1:=(hv4 q hq).2;have h2:=hK57.size;simp at h2;omega⟩
     have hff:∀ q,v7.ownBlock=some q→(Value.slice ax X'.length cx).ownBlock=some q∨wb.heap.size≤q:=fun q hq=>by
      rcases hf7 q hq with h1 | h1
      ·exact .inl h1
      ·simp at h1;exact .inr (by omega)
     have hnn:∀ q,(Fm.v ⟨y.n,y.b.take m,m,a5,k5⟩).ownBlock=some q→v7.ownBlock≠some q:=fun q hq hm=>by
      have h0:=(hv4 q hq)
      rcases hf7 q hm with h1 | h1
      ·have:=H'.out.lt q (H'.out.vO h1).1;omega
      ·simp at h1;omega
     have HFP:Hid (FdP w.heap.size wb Oi ⟨crsL ((X.map Fm.fl).take i) K++[⟨y.n,y.b.take m,m⟩],0,-1,false⟩ (w7.setCell ⟨w.heap.size,0,none⟩ v7)):=AtF.push H'.out hK7 ⟨y.n,y.b.take m,m,a5,k5⟩ hx7 hxf hR7 hff hnn
     have hl7:(X'++[(⟨y.n,y.b.take m,m,a5,k5⟩:Fm)]).length=X'.length+1:=by simp
     have hb7:w.heap.size ∉ (Value.slice ax X'.length cx).ownBlock.toList:=fun hm=>(H'.out.vO (by simpa using hm)).2 rfl
     have x7:=(H'.out.h.kept hK7 hb7).cell 0 rfl
     have z7:=(H'.out.h.kept hK7 hb7).froz 0
     obtain ⟨a7,c7,hv7,_⟩:=Rk.shape hR7
     subst hv7
     have HK7:=hide hK7
     rw [hl7] at HFP
     try rw [hl7]
     generalize X'.length+1=n7 at HFP ⊢
     clear hR7 hg7 hf7 hK57 hK7 hv4 hx7 hHeld hb7 hxf hff hnn hl7 e2
     refine hK0.out _ _ hs7 (fun hHeld=>?_)
     clear hK0 K0
     try simp only [sT,Act.put]
     refine tks [28,29] (by rfl) (by kernel_rfl) (fun _ _ _ _ _ h=>h) hHeld ?_
     iterate 2
      refine yk ?_ rfl (Or.inl ⟨by rfl,?_⟩) ?_
      rotate_left
      ·intro w9 hSw;obtain ⟨m0,m1,m2⟩:=hSw;go_simp;(try with_reducible rfl)
      try simp only [sT,Act.put]
     refine yk0 ?_
     simp only [setK,sT]
     refine rd1 30 (by kernel_rfl) rfl (fun K0 hK0=>?_)
     go_simp
     have hs8:=HSw.out w7 HK7.out (.slice a7 n7 c7)
     refine hK0.out _ _ hs8 (fun hHeld=>?_)
     clear hK0 K0 hs7 hs8 x7 z7
     try simp only [sT,Act.put]
     refine wpAnyH_done (by kernel_rfl) ?_ _
     clear hHeld
     generalize w7.setCell ⟨w.heap.size,0,none⟩ (.slice a7 n7 c7)=w8 at HFP ⊢
     obtain ⟨O8,hA8,hk8,hn8⟩:=HFP.out
     have HA8:Hid (AtF w8 O8 w.heap.size ⟨crsL ((X.map Fm.fl).take (i+1)) K,0,-1,false⟩):=by show AtF _ _ _ _;rw [HNX.out];exact hA8
     have HK8:=hide (HKb.out.trans hk8 (fun k hk=>.inr (HNi.out k hk)))
     have HN8:Hid (∀ k∈O8,w.heap.size≤k):=fun k hk=>by
      rcases hn8 k hk with h1 | h1
      ·exact HNi.out k h1
      ·have:=HKb.out.size;omega
     clear hA8 hk8 hn8
     go_wp2_with fail
     go_roundw
     case rel=>exact ⟨i+1,O8,by go_num,by omega,HA8,HK8,HN8⟩
     case measure=>simp [intOf];omega
    ·go_simp
     refine (cC.out _ HKd.out).mono ?_
     rintro _ w4 ⟨v4,rfl,hO4,hf4,hk4⟩
     have hK4:Kept [] wb w4:=HKd.out.trans hk4 (by simp)
     obtain ⟨a5,n5,k5,rfl,hs5,_⟩:=own_sl hO4
     have hn5:m=n5:=by rw [← hs5.1,List.length_take];have:=HML.out;omega
     subst hn5
     have HK4:=hide hK4
     have HO4:=hide hO4
     have HF4:Hid (∀ q,(Value.slice a5 m k5).ownBlock=some q→wb.heap.size≤q):=fun q hq=>by have h1:=hf4 q hq;have h2:=HKd.out.size;omega
     have HB5:Hid (Bx (w4.alloc (.cells #[.string (str y.n),.slice a5 m k5,.int .i64 m] 73)) w4.heap.size 73 (foC ⟨y.n,y.b.take m,m,a5,k5⟩)):=by
      have e:foC ⟨y.n,y.b.take m,m,a5,k5⟩=[.string (str y.n),.slice a5 m k5,.int .i64 m]:=by
       unfold foC Fm.v
       have e2:(y.b.take m).length=m:=by rw [List.length_take];have:=HML.out;omega
       simp only [e2]
      rw [e];exact Bx.new w4 _ _
     have HK5:Hid (Kept [] wb (w4.alloc (.cells #[.string (str y.n),.slice a5 m k5,.int .i64 m] 73))):=hK4.alloc _
     obtain ⟨hs4,x4⟩:=HSx.out w4 hK4
     clear hO4 hf4 hk4 hK4 hs5 hHeld
     go_wp2_with fail
     refine hK0.out _ _ hs4 (fun hHeld=>?_)
     clear hK0 K0 hs4 x4
     try simp only [sT,Act.put]
     refine tks [25] (by rfl) (by kernel_rfl) (fun _ _ _ _ _ h=>h) hHeld ?_
     iterate 1
      refine yk ?_ rfl (Or.inl ⟨by rfl,?_⟩) ?_
      rotate_left
      ·intro w9 hSw;obtain ⟨m0,m1,m2⟩:=hSw;go_simp;(try with_reducible rfl)
      try simp only [sT,Act.put]
     refine yk0 ?_
     simp only [setK,sT]
     refine wpAnyH_ready (rs:=[4,26]) (by kernel_rfl) (by simp) (AllReadyH.cons rfl (fun K0 hK0=>?_) (AllReadyH.cons rfl (fun K0 hK0=>?_) AllReadyH.nil))
     ·obtain ⟨hs4,x4⟩:=HSx.out _ HK4.out
      go_simp
      refine hK0.out _ _ hs4 (fun hHeld=>?_)
      clear hK0 K0 hs4 x4
      try simp only [sT,Act.put]
      refine rd1 26 (by kernel_rfl) rfl (fun K0 hK0=>?_)
      go_simp
      obtain ⟨hs4,x4⟩:=HSx.out _ HK5.out
      refine hK0.out _ _ hs4 (fun hHeld=>?_)
      clear hK0 K0 hs4 x4
      try simp only [sT,Act.put]
      refine rd1 27 (by kernel_rfl) rfl (fun K0 hK0=>?_)
      rw [if_pos (by rfl)]
      refine Rk.appO rkO _ _ rfl (.slice ax X'.length cx) X' rfl (Rk.kept HR.out HK5.out (by simp)) ⟨w4.heap.size,0,none⟩ 1 1 [⟨y.n,y.b.take m,m,a5,k5⟩] rfl rfl (Rk.news HB5.out) (by have:=HXL.out;simp;omega) ?_
      intro v7 w7 hR7 hg7 hf7
      have hK57:Kept (Value.slice ax X'.length cx).ownBlock.toList (w4.alloc (.cells #[.string (str y.n),.slice a5 m k5,.int .i64 m] 73)) w7:=(Kept.refl _ _).grown hg7 (by intro k hk;left;rw [hk];simp)
      have hK7:Kept (Value.slice ax X'.length cx).ownBlock.toList wb w7:=(HK5.out.mono (by simp)).trans hK57 (fun q hq=>.inl hq)
      have hs7:=HSv.out w7 hK7
      have hsz5:wb.heap.size≤w4.heap.size:=HK4.out.size
      have e2:(y.b.take m).length=m:=by rw [List.length_take];have:=HML.out;omega
      have hv4:∀ q,(Fm.v ⟨y.n,y.b.take m,m,a5,k5⟩).ownBlock=some q→wb.heap.size≤q∧q < w4.heap.size:=fun q hq=>by
       have hq':(Value.slice a5 m k5).ownBlock=some q:=by
        have h9:=hq
        unfold Fm.v at h9
        simp only at h9
        rw [e2] at h9
        exact h9
       exact ⟨HF4.out q hq',(World.ownsRow.lt HO4.out q hq').2⟩
      have hx7:Own w7 (Fm.v ⟨y.n,y.b.take m,m,a5,k5⟩) (y.b.take m):=by
       have h1:Own w7 (.slice a5 m k5) (y.b.take m):=hK57.ownsRow (((Kept.refl [] w4).alloc _).ownsRow HO4.out (by simp)) (fun q hq hm=>by
        have h2:=HF4.out q hq
        have h3:=H'.out.lt q (H'.out.vO (by simpa using hm)).1
        omega)
       show Own w7 (.slice a5 (y.b.take m).length k5) _
       rw [e2];exact h1
      have hxf:∀ q,(Fm.v ⟨y.n,y.b.take m,m,a5,k5⟩).ownBlock=some q→wb.heap.size≤q∧q < w7.heap.size:=fun q hq=>⟨(hv4 q hq).1,by have h1:=(hv4 q hq).2;have h2:=hK57.size;simp at h2;omega⟩
      have hff:∀ q,v7.ownBlock=some q→(Value.slice ax X'.length cx).ownBlock=some q∨wb.heap.size≤q:=fun q hq=>by
       rcases hf7 q hq with h1 | h1
       ·exact .inl h1
       ·simp at h1;exact .inr (by omega)
      have hnn:∀ q,(Fm.v ⟨y.n,y.b.take m,m,a5,k5⟩).ownBlock=some q→v7.ownBlock≠some q:=fun q hq hm=>by
       have h0:=(hv4 q hq)
       rcases hf7 q hm with h1 | h1
       ·have:=H'.out.lt q (H'.out.vO h1).1;omega
       ·simp at h1;omega
      have HFP:Hid (FdP w.heap.size wb Oi ⟨crsL ((X.map Fm.fl).take i) K++[⟨y.n,y.b.take m,m⟩],0,-1,false⟩ (w7.setCell ⟨w.heap.size,0,none⟩ v7)):=AtF.push H'.out hK7 ⟨y.n,y.b.take m,m,a5,k5⟩ hx7 hxf hR7 hff hnn
      have hl7:(X'++[(⟨y.n,y.b.take m,m,a5,k5⟩:Fm)]).length=X'.length+1:=by simp
      have hb7:w.heap.size ∉ (Value.slice ax X'.length cx).ownBlock.toList:=fun hm=>(H'.out.vO (by simpa using hm)).2 rfl
      have x7:=(H'.out.h.kept hK7 hb7).cell 0 rfl
      have z7:=(H'.out.h.kept hK7 hb7).froz 0
      obtain ⟨a7,c7,hv7,_⟩:=Rk.shape hR7
      subst hv7
      have HK7:=hide hK7
      rw [hl7] at HFP
      try rw [hl7]
      generalize X'.length+1=n7 at HFP ⊢
      clear hR7 hg7 hf7 hK57 hK7 hv4 hx7 hHeld hb7 hxf hff hnn hl7 e2
      refine hK0.out _ _ hs7 (fun hHeld=>?_)
      clear hK0 K0
      try simp only [sT,Act.put]
      refine tks [28,29] (by rfl) (by kernel_rfl) (fun _ _ _ _ _ h=>h) hHeld ?_
      iterate 2
       refine yk ?_ rfl (Or.inl ⟨by rfl,?_⟩) ?_
       rotate_left
       ·intro w9 hSw;obtain ⟨m0,m1,m2⟩:=hSw;go_simp;(try with_reducible rfl)
       try simp only [sT,Act.put]
      refine yk0 ?_
      simp only [setK,sT]
      refine rd1 30 (by kernel_rfl) rfl (fun K0 hK0=>?_)
      go_simp
      have hs8:=HSw.out w7 HK7.out (.slice a7 n7 c7)
      refine hK0.out _ _ hs8 (fun hHeld=>?_)
      clear hK0 K0 hs7 hs8 x7 z7
      try simp only [sT,Act.put]
      refine wpAnyH_done (by kernel_rfl) ?_ _
      clear hHeld
      generalize w7.setCell ⟨w.heap.size,0,none⟩ (.slice a7 n7 c7)=w8 at HFP ⊢
      obtain ⟨O8,hA8,hk8,hn8⟩:=HFP.out
      have HA8:Hid (AtF w8 O8 w.heap.size ⟨crsL ((X.map Fm.fl).take (i+1)) K,0,-1,false⟩):=by show AtF _ _ _ _;rw [HNX.out];exact hA8
      have HK8:=hide (HKb.out.trans hk8 (fun k hk=>.inr (HNi.out k hk)))
      have HN8:Hid (∀ k∈O8,w.heap.size≤k):=fun k hk=>by
       rcases hn8 k hk with h1 | h1
       ·exact HNi.out k h1
       ·have:=HKb.out.size;omega
      clear hA8 hk8 hn8
      go_wp2_with fail
      go_roundw
      case rel=>exact ⟨i+1,O8,by go_num,by omega,HA8,HK8,HN8⟩
      case measure=>simp [intOf];omega
     ·go_simp
      obtain ⟨hs4,x4⟩:=HSx.out _ HK5.out
      refine hK0.out _ _ hs4 (fun hHeld=>?_)
      clear hK0 K0 hs4 x4
      try simp only [sT,Act.put]
      refine rd1 4 (by kernel_rfl) rfl (fun K0 hK0=>?_)
      obtain ⟨hs4,x4⟩:=HSx.out _ HK5.out
      go_simp
      refine hK0.out _ _ hs4 (fun hHeld=>?_)
      clear hK0 K0 hs4 x4
      try simp only [sT,Act.put]
      refine rd1 27 (by kernel_rfl) rfl (fun K0 hK0=>?_)
      rw [if_pos (by rfl)]
      refine Rk.appO rkO _ _ rfl (.slice ax X'.length cx) X' rfl (Rk.kept HR.out HK5.out (by simp)) ⟨w4.heap.size,0,none⟩ 1 1 [⟨y.n,y.b.take m,m,a5,k5⟩] rfl rfl (Rk.news HB5.out) (by have:=HXL.out;simp;omega) ?_
      intro v7 w7 hR7 hg7 hf7
      have hK57:Kept (Value.slice ax X'.length cx).ownBlock.toList (w4.alloc (.cells #[.string (str y.n),.slice a5 m k5,.int .i64 m] 73)) w7:=(Kept.refl _ _).grown hg7 (by intro k hk;left;rw [hk];simp)
      have hK7:Kept (Value.slice ax X'.length cx).ownBlock.toList wb w7:=(HK5.out.mono (by simp)).trans hK57 (fun q hq=>.inl hq)
      have hs7:=HSv.out w7 hK7
      have hsz5:wb.heap.size≤w4.heap.size:=HK4.out.size
      have e2:(y.b.take m).length=m:=by rw [List.length_take];have:=HML.out;omega
      have hv4:∀ q,(Fm.v ⟨y.n,y.b.take m,m,a5,k5⟩).ownBlock=some q→wb.heap.size≤q∧q < w4.heap.size:=fun q hq=>by
       have hq':(Value.slice a5 m k5).ownBlock=some q:=by
        have h9:=hq
        unfold Fm.v at h9
        simp only at h9
        rw [e2] at h9
        exact h9
       exact ⟨HF4.out q hq',(World.ownsRow.lt HO4.out q hq').2⟩
      have hx7:Own w7 (Fm.v ⟨y.n,y.b.take m,m,a5,k5⟩) (y.b.take m):=by
       have h1:Own w7 (.slice a5 m k5) (y.b.take m):=hK57.ownsRow (((Kept.refl [] w4).alloc _).ownsRow HO4.out (by simp)) (fun q hq hm=>by
        have h2:=HF4.out q hq
        have h3:=H'.out.lt q (H'.out.vO (by simpa using hm)).1
        omega)
       show Own w7 (.slice a5 (y.b.take m).length k5) _
       rw [e2];exact h1
      have hxf:∀ q,(Fm.v ⟨y.n,y.b.take m,m,a5,k5⟩).ownBlock=some q→wb.heap.size≤q∧q < w7.heap.size:=fun q hq=>⟨(hv4 q hq).1,by have h1:=(hv4 q hq).2;have h2:=hK57.size;simp at h2;omega⟩
      have hff:∀ q,v7.ownBlock=some q→(Value.slice ax X'.length cx).ownBlock=some q∨wb.heap.size≤q:=fun q hq=>by
       rcases hf7 q hq with h1 | h1
       ·exact .inl h1
       ·simp at h1;exact .inr (by omega)
      have hnn:∀ q,(Fm.v ⟨y.n,y.b.take m,m,a5,k5⟩).ownBlock=some q→v7.ownBlock≠some q:=fun q hq hm=>by
       have h0:=(hv4 q hq)
       rcases hf7 q hm with h1 | h1
       ·have:=H'.out.lt q (H'.out.vO h1).1;omega
       ·simp at h1;omega
      have HFP:Hid (FdP w.heap.size wb Oi ⟨crsL ((X.map Fm.fl).take i) K++[⟨y.n,y.b.take m,m⟩],0,-1,false⟩ (w7.setCell ⟨w.heap.size,0,none⟩ v7)):=AtF.push H'.out hK7 ⟨y.n,y.b.take m,m,a5,k5⟩ hx7 hxf hR7 hff hnn
      have hl7:(X'++[(⟨y.n,y.b.take m,m,a5,k5⟩:Fm)]).length=X'.length+1:=by simp
      have hb7:w.heap.size ∉ (Value.slice ax X'.length cx).ownBlock.toList:=fun hm=>(H'.out.vO (by simpa using hm)).2 rfl
      have x7:=(H'.out.h.kept hK7 hb7).cell 0 rfl
      have z7:=(H'.out.h.kept hK7 hb7).froz 0
      obtain ⟨a7,c7,hv7,_⟩:=Rk.shape hR7
      subst hv7
      have HK7:=hide hK7
      rw [hl7] at HFP
      try rw [hl7]
      generalize X'.length+1=n7 at HFP ⊢
      clear hR7 hg7 hf7 hK57 hK7 hv4 hx7 hHeld hb7 hxf hff hnn hl7 e2
      refine hK0.out _ _ hs7 (fun hHeld=>?_)
      clear hK0 K0
      try simp only [sT,Act.put]
      refine tks [28,29] (by rfl) (by kernel_rfl) (fun _ _ _ _ _ h=>h) hHeld ?_
      iterate 2
       refine yk ?_ rfl (Or.inl ⟨by rfl,?_⟩) ?_
       rotate_left
       ·intro w9 hSw;obtain ⟨m0,m1,m2⟩:=hSw;go_simp;(try with_reducible rfl)
       try simp only [sT,Act.put]
      refine yk0 ?_
      simp only [setK,sT]
      refine rd1 30 (by kernel_rfl) rfl (fun K0 hK0=>?_)
      go_simp
      have hs8:=HSw.out w7 HK7.out (.slice a7 n7 c7)
      refine hK0.out _ _ hs8 (fun hHeld=>?_)
      clear hK0 K0 hs7 hs8 x7 z7
      try simp only [sT,Act.put]
      refine wpAnyH_done (by kernel_rfl) ?_ _
      clear hHeld
      generalize w7.setCell ⟨w.heap.size,0,none⟩ (.slice a7 n7 c7)=w8 at HFP ⊢
      obtain ⟨O8,hA8,hk8,hn8⟩:=HFP.out
      have HA8:Hid (AtF w8 O8 w.heap.size ⟨crsL ((X.map Fm.fl).take (i+1)) K,0,-1,false⟩):=by show AtF _ _ _ _;rw [HNX.out];exact hA8
      have HK8:=hide (HKb.out.trans hk8 (fun k hk=>.inr (HNi.out k hk)))
      have HN8:Hid (∀ k∈O8,w.heap.size≤k):=fun k hk=>by
       rcases hn8 k hk with h1 | h1
       ·exact HNi.out k h1
       ·have:=HKb.out.size;omega
      clear hA8 hk8 hn8
      go_wp2_with fail
      go_roundw
      case rel=>exact ⟨i+1,O8,by go_num,by omega,HA8,HK8,HN8⟩
      case measure=>simp [intOf];omega
  ·have hlt':¬ (i:Int) < X.length:=by omega
   have hie:i=X.length:=by omega
   have HAe:Hid (AtF wr Oi w.heap.size (crsF K d)):=by show AtF _ _ _ _;rw [HF.out,← hie];exact HAi.out
   clear hie
   go_wp2_with fail
   go_ret
   exact ⟨rfl,Oi,HAe.out,HKi.out,HNi.out⟩
end Go.Proofs.Yteiagkjhmhllnaa
