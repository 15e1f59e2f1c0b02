/-
  A disk's bounds, deed by deed.
-/
import Derived.Test.YteiagkjhmhllnaaFdApp
namespace Go.Proofs.Yteiagkjhmhllnaa
structure BdN (N:Nat) (d:Dk):Prop where
 s:0≤d.s∧d.s≤N
 f:-1≤d.f∧d.f < 9223372036854775808
 n:d.L.length≤N
 b:∀ x∈d.L,x.b.length≤1000*N
 l:∀ x∈d.L,x.l≤x.b.length
theorem BdN.bd {N:Nat}{d:Dk}(h:BdN N d) (hN:N≤1000000):BdD d :=
 ⟨⟨h.s.1,by have:=h.s.2;omega⟩,h.f,by have:=h.n;omega,fun x hx=>by have:=h.b x hx;omega,h.l⟩
theorem BdN.mono {N M:Nat}{d:Dk}(h:BdN N d) (hN:N≤M):BdN M d :=
 ⟨⟨h.s.1,by have:=h.s.2;omega⟩,h.f,by have:=h.n;omega,fun x hx=>by have:=h.b x hx;omega,h.l⟩
theorem bdN_new:BdN 0 ⟨[],0,-1,false⟩:=⟨⟨by decide,by decide⟩,⟨by decide,by decide⟩,by decide,fun x hx=>(by cases hx),fun x hx=>(by cases hx)⟩
def BdL (N:Nat) (L:List Fl):Prop:=L.length≤N∧∀ x∈L,x.b.length≤1000*N∧x.l≤x.b.length
theorem BdN.L {N:Nat}{d:Dk}(h:BdN N d):BdL N d.L:=⟨h.n,fun x hx=>⟨h.b x hx,h.l x hx⟩⟩
theorem stepF_bd {N:Nat}{d:Dk}(h:BdN N d):(0≤(stepF d).1.s∧(stepF d).1.s≤(N+1:Nat))∧-1≤(stepF d).1.f∧(stepF d).1.f < 9223372036854775808:=by
 have h1:=h.s
 have h2:=h.f
 unfold stepF
 split
 ·refine ⟨⟨?_,?_⟩,h2⟩ <;> simp only <;> omega
 ·split
  ·refine ⟨⟨?_,?_⟩,?_,?_⟩ <;> simp only <;> omega
  ·refine ⟨⟨?_,?_⟩,h2⟩ <;> simp only <;> omega
theorem bdN_of {N:Nat}{d:Dk}(h:BdN N d) {L:List Fl}(hL:BdL (N+1) L) (dd:Bool):BdN (N+1) ⟨L,(stepF d).1.s,(stepF d).1.f,dd⟩ :=
 ⟨(stepF_bd h).1,(stepF_bd h).2,hL.1,fun x hx=>(hL.2 x hx).1,fun x hx=>(hL.2 x hx).2⟩
theorem BdL.mono {N M:Nat}{L:List Fl}(h:BdL N L) (hN:N≤M):BdL M L:=⟨by have:=h.1;omega,fun x hx=>⟨by have:=(h.2 x hx).1;omega,(h.2 x hx).2⟩⟩
theorem stepD_bd {N:Nat}{d:Dk}(h:BdN N d):BdN (N+1) (stepF d).1:=by
 have h1:=bdN_of h (h.L.mono (Nat.le_succ N)) (stepF d).1.d
 rw [← stepF_L d] at h1
 exact h1
theorem updF_bd {N:Nat}{L:List Fl}(h:BdL N L) (i:Nat) (g:Fl→Fl) (hg:∀ x∈L,(g x).b.length≤1000*N∧(g x).l≤(g x).b.length):BdL N (updF L i g):=by
 unfold updF
 cases e:L[i]? with
 | none=>exact h
 | some x =>
   have hx:x∈L:=List.mem_of_getElem? e
   refine ⟨by simp;exact h.1,fun y hy=>?_⟩
   rcases List.mem_or_eq_of_mem_set hy with hy | rfl
   ·exact h.2 y hy
   ·exact hg x hx
theorem outF_bd {N:Nat}{L:List Fl}(h:BdL N L) (i:Nat):BdL N (outF L i):=by
 refine ⟨?_,fun y hy=>?_⟩
 ·unfold outF
  rw [List.length_append,List.length_take,List.length_drop]
  have:=h.1;omega
 ·unfold outF at hy
  rcases List.mem_append.1 hy with hy | hy
  ·exact h.2 y (List.mem_of_mem_take hy)
  ·exact h.2 y (List.mem_of_mem_drop hy)
theorem inF_bd {N:Nat}{L:List Fl}(h:BdL N L) (x:Fl) (hn:L.length+1≤N) (hx:x.b.length≤1000*N∧x.l≤x.b.length):BdL N (inF x L):=by
 refine ⟨by rw [inF_length];exact hn,fun y hy=>?_⟩
 rcases inF_sub hy with rfl | hy
 ·exact hx
 ·exact h.2 y hy
theorem apL_bd {N:Nat}{n:List UInt8}{L:List Fl}(h:BdL N L):BdL (N+1) (apL n L):=by
 unfold apL
 split
 ·exact inF_bd (h.mono (Nat.le_succ N)) _ (by have:=h.1;omega) ⟨by simp,by simp⟩
 ·exact h.mono (Nat.le_succ N)
theorem appF_bd {N:Nat}{d:Dk}(h:BdN N d) (n:List UInt8) (b:List Int) (hb:b.length≤500):BdN (N+1) (appF n b d).1:=by
 by_cases hd:d.d=true
 ·unfold appF;rw [if_pos hd];exact h.mono (Nat.le_succ N)
 have hd':d.d=false:=by simpa using hd
 cases hn:nameF n
 ·unfold appF;rw [hd',hn];exact h.mono (Nat.le_succ N)
 ·obtain ⟨i,hi⟩:=apL_find n d.L
  rw [appF_ok hd' hn hi]
  refine bdN_of h (updF_bd (apL_bd h.L) i _ (fun x hx=>?_)) _
  have h1:=apL_b (n:=n) (fun y hy=>(h.L.2 y hy).1) x hx
  have h2:=((apL_bd h.L (n:=n)).2 x hx).2
  show (x.b++b).length≤_∧x.l≤(x.b++b).length
  rw [List.length_append]
  omega
theorem synF_bd {N:Nat}{d:Dk}(h:BdN N d) (n:List UInt8):BdN (N+1) (synF n d).1:=by
 by_cases hd:d.d=true
 ·unfold synF;rw [if_pos hd];exact h.mono (Nat.le_succ N)
 unfold synF
 rw [if_neg hd]
 cases findF n d.L with
 | none=>exact h.mono (Nat.le_succ N)
 | some i =>
   simp only
   split
   ·refine bdN_of h (updF_bd (by rw [stepF_L];exact h.L.mono (Nat.le_succ N)) i _ (fun x hx=>?_)) _
    rw [stepF_L] at hx
    have:=h.b x hx
    exact ⟨by show x.b.length≤_;omega,Nat.le_refl _⟩
   ·exact stepD_bd h
theorem truF_bd {N:Nat}{d:Dk}(h:BdN N d) (n:List UInt8) (k:Int):BdN (N+1) (truF n k d).1:=by
 by_cases hd:d.d=true
 ·unfold truF;rw [if_pos hd];exact h.mono (Nat.le_succ N)
 unfold truF
 rw [if_neg hd]
 cases findF n d.L with
 | none=>exact h.mono (Nat.le_succ N)
 | some i =>
   simp only
   split
   ·exact h.mono (Nat.le_succ N)
   ·split
    ·refine bdN_of h (updF_bd (by rw [stepF_L];exact h.L.mono (Nat.le_succ N)) i _ (fun x hx=>?_)) _
     rw [stepF_L] at hx
     have h1:=h.b x hx
     have h2:=h.l x hx
     show (x.b.take k.toNat).length≤_∧min x.l k.toNat≤(x.b.take k.toNat).length
     rw [List.length_take]
     omega
    ·exact stepD_bd h
theorem renL_bd {N:Nat}{L:List Fl}(h:BdL N L) (i:Nat) (hi:i < L.length) (t:List UInt8):BdL N (renL L i t):=by
 have hx:=h.2 L[i] (List.getElem_mem hi)
 have h1:=outF_bd h i
 have hl:(outF L i).length+1≤N:=by
  have:=h.1
  unfold outF
  rw [List.length_append,List.length_take,List.length_drop]
  omega
 unfold renL
 simp only [List.getD,List.getElem?_eq_getElem hi,Option.getD_some]
 cases findF t (outF L i) with
 | none=>exact inF_bd h1 _ hl hx
 | some k =>
   refine inF_bd (outF_bd h1 k) _ ?_ hx
   have h2:(outF (outF L i) k).length≤(outF L i).length:=by
    unfold outF
    simp only [List.length_append,List.length_take,List.length_drop]
    omega
   exact Nat.le_trans (Nat.succ_le_succ h2) hl
theorem renF_bd {N:Nat}{d:Dk}(h:BdN N d) (n t:List UInt8):BdN (N+1) (renF n t d).1:=by
 by_cases hd:d.d=true
 ·unfold renF;rw [if_pos hd];exact h.mono (Nat.le_succ N)
 unfold renF
 rw [if_neg hd]
 cases e:findF n d.L with
 | none=>exact h.mono (Nat.le_succ N)
 | some i =>
   obtain ⟨hi,_⟩:=findF_lt e
   simp only
   split
   ·exact h.mono (Nat.le_succ N)
   ·split
    ·refine bdN_of h (renL_bd (by rw [stepF_L];exact h.L.mono (Nat.le_succ N)) i (by rw [stepF_L];exact hi) t) _
    ·exact stepD_bd h
theorem rmvF_bd {N:Nat}{d:Dk}(h:BdN N d) (n:List UInt8):BdN (N+1) (rmvF n d).1:=by
 by_cases hd:d.d=true
 ·unfold rmvF;rw [if_pos hd];exact h.mono (Nat.le_succ N)
 unfold rmvF
 rw [if_neg hd]
 cases findF n d.L with
 | none=>exact h.mono (Nat.le_succ N)
 | some i =>
   simp only
   split
   ·exact bdN_of h (outF_bd (by rw [stepF_L];exact h.L.mono (Nat.le_succ N)) i) _
   ·exact stepD_bd h
theorem armF_bd {N:Nat}{d:Dk}(h:BdN N d) (k:Int) (hk:k < 9223372036854775808):BdN N (armF k d):=by
 unfold armF
 split
 ·exact h
 ·exact ⟨h.s,⟨by show -1≤max k (-1);omega,by show max k (-1) < _;omega⟩,h.n,h.b,h.l⟩
theorem flpF_bd {N:Nat}{d:Dk}(h:BdN N d) (n:List UInt8) (k:Int):BdN N (flpF n k d).1:=by
 unfold flpF
 cases findF n d.L with
 | none=>exact h
 | some i =>
   simp only
   split
   ·exact h
   ·have h1:=updF_bd h.L i (fun x=>⟨x.n,flipB x.b k.toNat,x.l⟩) (fun x hx=>by
     show (flipB x.b k.toNat).length≤_∧x.l≤(flipB x.b k.toNat).length
     unfold flipB
     rw [List.length_set]
     exact h.L.2 x hx)
    exact ⟨h.s,h.f,h1.1,fun x hx=>(h1.2 x hx).1,fun x hx=>(h1.2 x hx).2⟩
theorem keptF_le (x:Fl) (k:Int) (h:x.l≤x.b.length):keptF x k≤x.b.length:=by
 unfold keptF
 split <;> omega
theorem crsL_bd (L:List Fl) (K:List Int) (M:Nat) (h:∀ x∈L,x.b.length≤M∧x.l≤x.b.length):(crsL L K).length=L.length∧∀ x∈crsL L K,x.b.length≤M∧x.l≤x.b.length:=by
 induction L generalizing K with
 | nil=>exact ⟨by cases K <;> rfl,fun x hx=>by cases K <;> cases hx⟩
 | cons y L ih =>
   have hy:=h y (List.mem_cons_self ..)
   have hr:=fun x hx=>h x (List.mem_cons_of_mem _ hx)
   cases K with
   | nil =>
     obtain ⟨h1,h2⟩:=ih [] hr
     refine ⟨by simp [crsL,h1],fun x hx=>?_⟩
     rcases List.mem_cons.1 hx with rfl | hx
     ·show (y.b.take y.l).length≤_∧y.l≤(y.b.take y.l).length
      rw [List.length_take];omega
     ·exact h2 x hx
   | cons k K =>
     obtain ⟨h1,h2⟩:=ih K hr
     refine ⟨by simp [crsL,h1],fun x hx=>?_⟩
     rcases List.mem_cons.1 hx with rfl | hx
     ·have h3:=keptF_le y k hy.2
      show (y.b.take (keptF y k)).length≤_∧keptF y k≤(y.b.take (keptF y k)).length
      rw [List.length_take];omega
     ·exact h2 x hx
theorem crsF_bd {N:Nat}{d:Dk}(h:BdN N d) (K:List Int):BdN N (crsF K d):=by
 obtain ⟨h1,h2⟩:=crsL_bd d.L K (1000*N) (fun x hx=>⟨h.b x hx,h.l x hx⟩)
 exact ⟨⟨show (0:Int)≤0 by decide,by show (0:Int)≤N;omega⟩,⟨show (-1:Int)≤-1 by decide,show (-1:Int) < 9223372036854775808 by decide⟩,by show (crsL d.L K).length≤N;rw [h1];exact h.n,fun x hx=>(h2 x hx).1,fun x hx=>(h2 x hx).2⟩
end Go.Proofs.Yteiagkjhmhllnaa
