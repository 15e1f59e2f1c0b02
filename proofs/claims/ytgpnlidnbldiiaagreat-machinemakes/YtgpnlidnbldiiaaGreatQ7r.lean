/-
  Texts laid as one.
-/
import Derived.Test.YtgpnlidnbldiiaaGreatQ3r
import Derived.Test.YtgpnlidnbldiiaaGreatQ5r
import Derived.Deep.CutRange
set_option maxHeartbeats 8000000
set_option maxRecDepth 100000
/-
 Parts of a row changed: slices.swapRangeCmpFunc.
-/
namespace Go.Proofs.YtgpnlidnbldiiaaGreat
open Go.RowKit
theorem aG.drew {w:World}{g n cap:Nat}{f:Nat→Ch}(h:aG w g n cap f):aG w.drew g n cap f:=h.kept ((aa.refl [] w).drew) (by simp)
theorem aG.swapped {w:World}{g n cap:Nat}{f:Nat→Ch}(h:aG w g n cap f) {i j:Nat}(hi:i < n) (hj:j < n) {F:Nat→Ch}(hF:∀ k,F k=jE f i j k) :
 aG (jk (jk w g i (f j)) g j (f i)).drew g n cap F:=((h.swap hi hj).congr fun k _=>hF k).drew
theorem fK (w:World) (g i j:Nat) (x y:Ch):aa [g] w (jk (jk w g i x) g j y).drew:=((pk w g i x).trans (pk _ g j y) (by simp)).drew
def fc (f:Nat→Ch) (a b m:Nat):Nat→Ch:=fun k=>if a≤k∧k < a+m then f (k - a+b) else if b≤k∧k < b+m then f (k - b+a) else f k
theorem wA (f:Nat→Ch) (a b k:Nat):fc f a b 0 k=f k:=by
 simp only [fc];rw [if_neg (by omega),if_neg (by omega)]
theorem tI (f:Nat→Ch) {a b i m:Nat}(h:a+m≤b) (hi:i < m):fc f a b i (a+i)=f (a+i):=by
 simp only [fc];rw [if_neg (by omega),if_neg (by omega)]
theorem uq (f:Nat→Ch) {a b i m:Nat}(h:a+m≤b) (hi:i < m):fc f a b i (b+i)=f (b+i):=by
 simp only [fc];rw [if_neg (by omega),if_neg (by omega)]
theorem vO (f:Nat→Ch) {a b i m:Nat}(h:a+m≤b) (hi:i < m) (k:Nat):fc f a b (i+1) k=jE (fc f a b i) (a+i) (b+i) k:=by
 simp only [jE];by_cases h1:k=a+i
 ·rw [if_pos h1,uq f h hi,h1];simp only [fc];rw [if_pos (by omega)];congr 1;omega
 ·rw [if_neg h1];by_cases h2:k=b+i
  ·rw [if_pos h2,tI f h hi,h2];simp only [fc];rw [if_neg (by omega),if_pos (by omega)];congr 1;omega
  ·rw [if_neg h2];simp only [fc];have e1:(a≤k∧k < a+(i+1))↔(a≤k∧k < a+i):=by omega
   have e2:(b≤k∧k < b+(i+1))↔(b≤k∧k < b+i):=by omega
   simp only [e1,e2]
theorem nF (w:World) (g n cap a b m:Nat) (f:Nat→Ch) (v:Value) (hR:aG w g n cap f) (h1:a+m≤b) (h2:b+m≤n) :
 Calls Tryz.prog 225 #[.slice (some ⟨g,0,none⟩) n cap,.int .i64 a,.int .i64 b,.int .i64 m,v] w fun e w'=>e=.returned (.tuple #[]) ∧
  aG w' g n cap (fc f a b m)∧aa [g] w w':=by
 have hcap:=hR.le;have hmax:=hR.max;unfold maxLen at hmax;have HR:Hid (aG w g n cap f):=hR;clear hR;go_enter Tryz.func225,Tryz.ntmps225;go_wp2_with fail
 go_loopw [10] (fun iv wr=>∃ i:Nat,i≤m∧iv=.int .i64 i∧Hid (aG wr g n cap (fc f a b i))∧Hid (aa [g] w wr)) (fun iv _=>m - (intOf iv).toNat)
 case atStart =>
  exact ⟨0,Nat.zero_le _,rfl,HR.out.congr fun k _=>wA f a b k,aa.refl _ _⟩
 case round =>
  obtain ⟨i,hi,rfl,HT,HK⟩:=hrel;by_cases hlt:i < m
  ·have hlt':(i:Int) < m:=by omega
   have hA:=HT.out.ch (i:=a+i) (by omega);have hB:=HT.out.ch (i:=b+i) (by omega);have hfz:=HT.out.froz;have hNext:=HT.out.swapped (i:=a+i) (j:=b+i) (by omega) (by omega) (vO f h1 hlt);rw [tI f h1 hlt,uq f h1 hlt] at hNext;rw [tI f h1 hlt] at hA;rw [uq f h1 hlt] at hB;have HN:Hid (aG (jk (jk wr g (a+i) (f (b+i))) g (b+i) (f (a+i))).drew g n cap (fc f a b (i+1))):=hNext;obtain ⟨c0,c1,c2⟩:=hA;obtain ⟨d0,d1,d2⟩:=hB;clear hNext;(go_wp2_with fail);go_region
   (go_wp2_with fail);go_roundw
   case rel=>exact ⟨i+1,by omega,by go_num,HN,HK.out.trans (fK wr g (a+i) (b+i) (f (b+i)) (f (a+i))) (by simp)⟩
   case measure=>simp [intOf];omega
  ·have hlt':¬ (i:Int) < m:=by omega
   have HE:Hid (i=m):=by show i=m;omega
   (go_wp2_with fail);go_returns
   exact ⟨rfl,by rw [← HE.out];exact HT.out,HK.out⟩
theorem iN {A B M:Int}(a b m:Nat) (eA:A=a) (eB:B=b) (eM:M=m) (w:World) (g n cap:Nat) (f:Nat→Ch) (v:Value) (hR:aG w g n cap f) (h1:a+m≤b) (h2:b+m≤n) :
 Calls Tryz.prog 225 #[.slice (some ⟨g,0,none⟩) n cap,.int .i64 A,.int .i64 B,.int .i64 M,v] w fun e w'=>e=.returned (.tuple #[]) ∧
  aG w' g n cap (fc f a b m)∧aa [g] w w':=by
 subst eA;subst eB;subst eM;exact nF w g n cap a b m f v hR h1 h2
def jB (f:Nat→Ch) (a m b:Nat):Nat→Ch:=fun k=>if a≤k∧k < a+(b - m) then f (k+(m - a)) else if a+(b - m)≤k∧k < b then f (k - (b - m)) else f k
structure sF (F h:Nat→Ch) (m i j:Nat):Prop where
 out:∀ k,k < m - i∨m+j≤k→h k=F k
 one:∀ k,m - i≤k→k < m - i+j→h (k+i)=F k
 two:∀ k,m - i+j≤k→k < m+j→h (k - j)=F k
theorem ub (f:Nat→Ch) {a m b:Nat}(h1:a≤m) (h2:m≤b):sF (jB f a m b) f m (m - a) (b - m):=by
 refine ⟨fun k hk=>?_,fun k hk1 hk2=>?_,fun k hk1 hk2=>?_⟩
 ·simp only [jB];rw [if_neg (by omega),if_neg (by omega)]
 ·simp only [jB];rw [if_pos (by omega)]
 ·simp only [jB];rw [if_neg (by omega),if_pos (by omega)]
theorem zg {F h:Nat→Ch}{m i j:Nat}(H:sF F h m i j) (hi:i≤m) (hj:j < i):sF F (fc h (m - i) m j) m (i - j) j:=by
 refine ⟨fun k hk=>?_,fun k hk1 hk2=>?_,fun k hk1 hk2=>?_⟩
 ·simp only [fc];by_cases c:m - i≤k∧k < m - i+j
  ·rw [if_pos c,← H.one k c.1 c.2];congr 1;omega
  ·rw [if_neg c,if_neg (by omega)];exact H.out k (by omega)
 ·simp only [fc];rw [if_neg (by omega),if_pos (by omega),← H.two k (by omega) (by omega)];congr 1;omega
 ·simp only [fc];rw [if_neg (by omega),if_neg (by omega)];exact H.two k (by omega) (by omega)
theorem tW {F h:Nat→Ch}{m i j:Nat}(H:sF F h m i j) (hi:i≤m) (hj:i < j):sF F (fc h (m - i) (m+j - i) i) m i (j - i):=by
 refine ⟨fun k hk=>?_,fun k hk1 hk2=>?_,fun k hk1 hk2=>?_⟩
 ·simp only [fc];by_cases c:m+j - i≤k∧k < m+j - i+i
  ·rw [if_neg (by omega),if_pos c,← H.two k (by omega) (by omega)];congr 1;omega
  ·rw [if_neg (by omega),if_neg c];exact H.out k (by omega)
 ·simp only [fc];rw [if_neg (by omega),if_neg (by omega)];exact H.one k (by omega) (by omega)
 ·simp only [fc];rw [if_pos (by omega),← H.one k (by omega) (by omega)];congr 1;omega
theorem yp {F h:Nat→Ch}{m i:Nat}(H:sF F h m i i) (hi:i≤m) (k:Nat):F k=fc h (m - i) m i k:=by
 simp only [fc];by_cases c:m - i≤k∧k < m - i+i
 ·rw [if_pos c,← H.one k c.1 c.2];congr 1;omega
 ·rw [if_neg c];by_cases c2:m≤k∧k < m+i
  ·rw [if_pos c2,← H.two k (by omega) (by omega)];congr 1;omega
  ·rw [if_neg c2];exact (H.out k (by omega)).symm
theorem qP (w:World) (g n cap a m b:Nat) (f:Nat→Ch) (v:Value) (hR:aG w g n cap f) (h1:a < m) (h2:m < b) (h3:b≤n) :
 Calls Tryz.prog 220 #[.slice (some ⟨g,0,none⟩) n cap,.int .i64 a,.int .i64 m,.int .i64 b,v] w fun e w'=>e=.returned (.tuple #[]) ∧
  aG w' g n cap (jB f a m b)∧aa [g] w w':=by
 have hcap:=hR.le;have hmax:=hR.max;unfold maxLen at hmax;have HR:Hid (aG w g n cap f):=hR;have HI:Hid (sF (jB f a m b) f m (m - a) (b - m)):=ub f (by omega) (by omega);generalize jB f a m b=F at HI ⊢;clear hR;go_enter Tryz.func220,Tryz.ntmps220;go_wp2_with fail
 go_loopw [10,11] (fun iv jv wr=>∃ (i j:Nat) (h:Nat→Ch),0 < i∧0 < j∧i≤m∧m+j≤n∧iv=.int .i64 i∧jv=.int .i64 j∧Hid (aG wr g n cap h)∧Hid (sF F h m i j)∧Hid (aa [g] w wr)) (fun iv jv _=>(intOf iv).toNat+(intOf jv).toNat)
 case atStart =>
  exact ⟨m - a,b - m,f,by omega,by omega,by omega,by omega,by go_num,by go_num,HR,HI,aa.refl _ _⟩
 case round =>
  obtain ⟨i,j,h,i0,j0,hi,hj,rfl,rfl,HT,HJ,HK⟩:=hrel;by_cases he:i=j
  ·have he':(i:Int)=j:=by omega
   have HE:Hid (i=j):=he;clear he;(go_wp2_with fail);refine (iN (m - i) m i (by omega) rfl (by omega) _ g n cap h v HT.out (by omega) (by omega)).mono ?_;rintro e w1 ⟨rfl,hR1,hK1⟩;have HR1:Hid (aG w1 g n cap (fc h (m - i) m i)):=hR1;have HK1:Hid (aa [g] w w1):=HK.out.trans hK1 (by simp);clear hR1 hK1;(go_wp2_with fail);go_returns
   have hJ:=HJ.out;rw [← HE.out] at hJ;exact ⟨rfl,HR1.out.congr fun k _=>yp hJ hi k,HK1.out⟩
  ·have he':¬ (i:Int)=j:=by omega
   by_cases hlt:j < i
   ·have hlt':(j:Int) < i:=by omega
    (go_wp2_with fail);refine (iN (m - i) m j (by omega) rfl rfl _ g n cap h v HT.out (by omega) (by omega)).mono ?_;rintro e w1 ⟨rfl,hR1,hK1⟩;have HR1:Hid (aG w1 g n cap (fc h (m - i) m j)):=hR1;have HK1:Hid (aa [g] w w1):=HK.out.trans hK1 (by simp);clear hR1 hK1;(go_wp2_with fail);go_roundw
    case rel=>exact ⟨i - j,j,_,by omega,j0,by omega,by omega,by go_num,rfl,HR1,zg HJ.out hi hlt,HK1⟩
    case measure=>simp [intOf];omega
   ·have hlt':¬ (j:Int) < i:=by omega
    (go_wp2_with fail);refine (iN (m - i) (m+j - i) i (by omega) (by omega) rfl _ g n cap h v HT.out (by omega) (by omega)).mono ?_;rintro e w1 ⟨rfl,hR1,hK1⟩;have HR1:Hid (aG w1 g n cap (fc h (m - i) (m+j - i) i)):=hR1;have HK1:Hid (aa [g] w w1):=HK.out.trans hK1 (by simp);clear hR1 hK1;(go_wp2_with fail);go_roundw
    case rel=>exact ⟨i,j - i,_,i0,by omega,hi,by omega,rfl,by go_num,HR1,tW HJ.out hi (by omega),HK1⟩
    case measure=>simp [intOf];omega
def pz (f:Nat→Ch) (a k:Nat):Nat→Ch:=fun p=>if p=k then f a else if a≤p∧p < k then f (p+1) else f p
theorem zk (f:Nat→Ch) (a p:Nat):pz f a a p=f p:=by
 simp only [pz];by_cases h:p=a
 ·rw [if_pos h,h]
 ·rw [if_neg h,if_neg (by omega)]
theorem nx (f:Nat→Ch) (a k:Nat):pz f a k k=f a:=by simp [pz]
theorem rI (f:Nat→Ch) (a k:Nat):pz f a k (k+1)=f (k+1):=by
 simp only [pz];rw [if_neg (by omega),if_neg (by omega)]
theorem yG (f:Nat→Ch) {a k:Nat}(h:a≤k) (p:Nat):pz f a (k+1) p=jE (pz f a k) k (k+1) p:=by
 simp only [jE];by_cases h1:p=k
 ·rw [if_pos h1,rI,h1];simp only [pz];rw [if_neg (by omega),if_pos (by omega)]
 ·rw [if_neg h1];by_cases h2:p=k+1
  ·rw [if_pos h2,nx,h2,nx]
  ·rw [if_neg h2];simp only [pz];rw [if_neg h2,if_neg h1];by_cases h3:a≤p∧p < k
   ·rw [if_pos h3,if_pos (by omega)]
   ·rw [if_neg h3,if_neg (by omega)]
theorem wZ {f h:Nat→Ch}{a b k i:Nat}(H:aO f h a b) (e:∀ p,h p=pz f a k p) (hk:a≤k) (hki:k+1 < i) (hi:i≤b) (hlt:∀ q,a+1≤q→q < i→aA (f q).p (f a).p < 0):aO f (jE h k (k+1)) a b:=by
 refine H.trans ((kP h k ?_).wide hk (by omega) (by omega));rw [e,e,nx,rI];exact fun e=>l6 (hlt (k+1) (by omega) hki) e.symm
theorem Bj {f:Nat→Ch}{a b i:Nat}(H:bU f (a+1) b) (h1:a+1≤i) (hi:i≤b) (hlt:∀ q,a+1≤q→q < i→aA (f q).p (f a).p < 0) (hge:∀ q,i≤q→q < b→¬ aA (f q).p (f a).p < 0):bU (pz f a (i - 1)) a b:=by
 intro p q hp hpq hq;have eL:∀ x,a≤x→x < i - 1→pz f a (i - 1) x=f (x+1):=fun x h2 h3=>by simp only [pz];rw [if_neg (by omega),if_pos (by omega)]
 have eR:∀ x,i≤x→pz f a (i - 1) x=f x:=fun x h2=>by simp only [pz];rw [if_neg (by omega),if_neg (by omega)]
 rcases (show p < i - 1∨p=i - 1∨i≤p by omega) with c | c | c
 ·rw [eL p hp c];rcases (show q < i - 1∨q=i - 1∨i≤q by omega) with d | d | d
  ·rw [eL q (by omega) d];exact H _ _ (by omega) (by omega) (by omega)
  ·rw [d,nx];exact Int.le_of_lt (hlt _ (by omega) (by omega))
  ·rw [eR q d];exact H _ _ (by omega) (by omega) hq
 ·rw [c,nx,eR q (by omega)];exact kC (hge q (by omega) hq)
 ·rw [eR p c,eR q (by omega)];exact H _ _ (by omega) hpq hq
def qk (f:Nat→Ch) (m k:Nat):Nat→Ch:=fun p=>if p=k then f m else if k < p∧p≤m then f (p - 1) else f p
theorem z8 (f:Nat→Ch) (m p:Nat):qk f m m p=f p:=by
 simp only [qk];by_cases h:p=m
 ·rw [if_pos h,h]
 ·rw [if_neg h,if_neg (by omega)]
theorem ng (f:Nat→Ch) (m k:Nat):qk f m k k=f m:=by simp [qk]
theorem ro (f:Nat→Ch) (m k:Nat):qk f m (k+1) k=f k:=by
 simp only [qk];rw [if_neg (by omega),if_neg (by omega)]
theorem zx (f:Nat→Ch) {m k:Nat}(h:k+1≤m) (p:Nat):qk f m k p=jE (qk f m (k+1)) (k+1) k p:=by
 simp only [jE];by_cases h1:p=k+1
 ·rw [if_pos h1,ro,h1];simp only [qk];rw [if_neg (by omega),if_pos (by omega)];congr 1
 ·rw [if_neg h1];by_cases h2:p=k
  ·rw [if_pos h2,ng,h2,ng]
  ·rw [if_neg h2];simp only [qk];rw [if_neg h2,if_neg h1];by_cases h3:k+1 < p∧p≤m
   ·rw [if_pos h3,if_pos (by omega)]
   ·rw [if_neg h3,if_neg (by omega)]
theorem xw {f h:Nat→Ch}{a b m k i:Nat}(H:aO f h a b) (e:∀ p,h p=qk f m (k+1) p) (hi:a≤i) (hik:i≤k) (hk:k+1≤m) (hm:m < b) (hlt:∀ q,i≤q→q < m→aA (f m).p (f q).p < 0):aO f (jE h (k+1) k) a b:=by
 refine H.trans ?_;rw [su];refine (kP h k ?_).wide (by omega) (by omega) (by omega);rw [e,e,ng,ro];exact fun e=>l6 (hlt k hik (by omega)) e.symm
theorem Ap {f:Nat→Ch}{a m i:Nat}(H:bU f a m) (hi:a≤i) (him:i≤m) (hlt:∀ q,i≤q→q < m→aA (f m).p (f q).p < 0) (hge:∀ q,a≤q→q < i→¬ aA (f m).p (f q).p < 0):bU (qk f m i) a (m+1):=by
 intro p q hp hpq hq;have eL:∀ x,x < i→qk f m i x=f x:=fun x h2=>by simp only [qk];rw [if_neg (by omega),if_neg (by omega)]
 have eR:∀ x,i < x→x≤m→qk f m i x=f (x - 1):=fun x h2 h3=>by simp only [qk];rw [if_neg (by omega),if_pos (by omega)]
 rcases (show p < i∨p=i∨i < p by omega) with c | c | c
 ·rw [eL p c];rcases (show q < i∨q=i∨i < q by omega) with d | d | d
  ·rw [eL q d];exact H _ _ hp hpq (by omega)
  ·rw [d,ng];exact kC (hge p hp c)
  ·rw [eR q d (by omega)];exact H _ _ hp (by omega) (by omega)
 ·rw [c,ng,eR q (by omega) (by omega)];exact Int.le_of_lt (hlt _ (by omega) (by omega))
 ·rw [eR p c (by omega),eR q (by omega) (by omega)];exact H _ _ (by omega) (by omega) (by omega)
structure tE (f:Nat→Ch) (nn lo hi s r:Nat):Prop where
 low:s=lo∨(lo < s∧¬ aA (f (nn - s)).p (f (s - 1)).p < 0)
 high:r=hi∨(r < hi∧aA (f (nn - 1 - r)).p (f r).p < 0)
theorem A3 {f:Nat→Ch}{nn lo hi s r c:Nat}(H:tE f nn lo hi s r) (h1:lo≤c) (hn:c < nn) (hc:¬ aA (f (nn - 1 - c)).p (f c).p < 0):tE f nn lo hi (c+1) r:=by
 refine ⟨.inr ⟨by omega,?_⟩,H.high⟩;rw [show nn - (c+1)=nn - 1 - c by omega];exact hc
theorem wo {f:Nat→Ch}{nn lo hi s r c:Nat}(H:tE f nn lo hi s r) (h1:c < hi) (hc:aA (f (nn - 1 - c)).p (f c).p < 0):tE f nn lo hi s c :=
 ⟨H.low,.inr ⟨h1,hc⟩⟩
structure A6 (f:Nat→Ch) (a m b mid s t:Nat):Prop where
 sum:s+t=mid+m
 a1:a≤s
 a2:s≤m
 a3:m≤t
 a4:t≤b
 am:a≤mid
 mb:mid≤b
 low:∀ p q,a≤p→p < s→t≤q→q < b→aA (f p).p (f q).p≤0
 high:∀ p q,m≤p→p < t→s≤q→q < m→aA (f p).p (f q).p < 0
theorem gu {f:Nat→Ch}{a b p q:Nat}(H:bU f a b) (h1:a≤p) (h2:p≤q) (h3:q < b):aA (f p).p (f q).p≤0:=by
 by_cases e:p=q
 ·rw [e,gM];omega
 ·exact H p q h1 (by omega) h3
theorem yV {a b c:List UInt8}(h1:aA a b≤0) (h2:aA b c < 0):aA a c < 0:=by
 rcases (gh.strict h1 (Int.le_of_lt h2)).2 with h | h <;> omega
theorem yf {a b c:List UInt8}(h1:aA a b < 0) (h2:aA b c≤0):aA a c < 0:=by
 rcases (gh.strict (Int.le_of_lt h1) h2).2 with h | h <;> omega
theorem AZ {f:Nat→Ch}{a m b mid lo hi s:Nat}(H:tE f (mid+m) lo hi s s) (h1:a≤m) (h2:m≤b) (hs1:lo≤s) (hs2:s≤hi) (hL:bU f a m) (hR:bU f m b) (hmid:mid=(a+b) / 2)
 (hlh:(mid < m∧lo=mid+m - b∧hi=mid)∨(m≤mid∧lo=a∧hi=m)):A6 f a m b mid s (mid+m - s):=by
 refine ⟨by omega,by omega,by omega,by omega,by omega,by omega,by omega,fun p q p1 p2 q1 q2=>?_,fun p q p1 p2 q1 q2=>?_⟩
 ·rcases H.low with e | ⟨e,hc⟩
  ·omega
  ·exact kf (gu hL p1 (by omega:p≤s - 1) (by omega)) (kf (kC hc) (gu hR (by omega) q1 q2))
 ·rcases H.high with e | ⟨e,hc⟩
  ·omega
  ·exact yf (yV (gu hR p1 (by omega:p≤mid+m - 1 - s) (by omega)) hc) (gu hL (by omega) q1 q2)
theorem wH (f:Nat→Ch) {s m t:Nat}(h1:s≤m) (h2:m≤t) (h:¬ (s < m∧m < t)) (k:Nat):jB f s m t k=f k:=by
 simp only [jB];rcases (show s=m∨m=t by omega) with e | e
 ·subst e;by_cases c:s≤k∧k < s+(t - s)
  ·rw [if_pos c];congr 1;omega
  ·rw [if_neg c,if_neg (by omega)]
 ·subst e;rw [if_neg (by omega)];by_cases c:s+(m - m)≤k∧k < m
  ·rw [if_pos c];congr 1;omega
  ·rw [if_neg c]
structure qh (f h:Nat→Ch) (a m b mid s t:Nat):Prop where
 alike:aO f h a b
 r1:bU h a s
 r2:bU h s mid
 r3:bU h mid t
 r4:bU h t b
 cross:∀ p q,a≤p→p < mid→mid≤q→q < b→aA (h p).p (h q).p≤0
theorem oC {f h:Nat→Ch}{a m b mid s t:Nat}(C:A6 f a m b mid s t) (hL:bU f a m) (hR:bU f m b) (e:∀ k,h k=jB f s m t k):qh f h a m b mid s t:=by
 obtain ⟨sum,a1,a2,a3,a4,am,mb,low,high⟩:=C;have e1:∀ k,k < s→h k=f k:=fun k hk=>by rw [e];simp only [jB];rw [if_neg (by omega),if_neg (by omega)]
 have e2:∀ k,s≤k→k < mid→h k=f (k+(m - s)):=fun k h1 h2=>by rw [e];simp only [jB];rw [if_pos (by omega)]
 have e3:∀ k,mid≤k→k < t→h k=f (k - (t - m)):=fun k h1 h2=>by rw [e];simp only [jB];rw [if_neg (by omega),if_pos (by omega)]
 have e4:∀ k,t≤k→h k=f k:=fun k hk=>by rw [e];simp only [jB];rw [if_neg (by omega),if_neg (by omega)]
 refine ⟨?_,fun p q h1 h2 h3=>?_,fun p q h1 h2 h3=>?_,fun p q h1 h2 h3=>?_,fun p q h1 h2 h3=>?_,fun p q p1 p2 q1 q2=>?_⟩
 ·refine aO.wide (c:=s) (d:=t) ⟨?_,fun k hk=>?_⟩ a1 (by omega) a4
  ·rw [gZ f a2 a3,gZ h (by omega:s≤mid) (by omega:mid≤t)]
   have g1:iu h s mid=iu f m t:=by
    rw [oA (f:=h) (g:=f) (c:=m) (fun k hk=>by rw [e2 _ (by omega) (by omega)];congr 1;omega)];congr 1;omega
   have g2:iu h mid t=iu f s m:=by
    rw [oA (f:=h) (g:=f) (c:=s) (fun k hk=>by rw [e3 _ (by omega) (by omega)];congr 1;omega)];congr 1;omega
   rw [g1,g2];refine bR.swap fun u hu v hv=>?_;obtain ⟨q,q1,q2,rfl⟩:=lX.1 hu;obtain ⟨p,p1,p2,rfl⟩:=lX.1 hv;exact fun e=>l6 (high p q p1 p2 q1 q2) e.symm
  ·rcases hk with hk | hk
   ·exact e1 k hk
   ·exact e4 k hk
 ·rw [e1 p (by omega),e1 q h3];exact hL p q h1 h2 (by omega)
 ·rw [e2 p h1 (by omega),e2 q (by omega) h3];exact hR _ _ (by omega) (by omega) (by omega)
 ·rw [e3 p h1 (by omega),e3 q (by omega) h3];exact hL _ _ (by omega) (by omega) (by omega)
 ·rw [e4 p h1,e4 q (by omega)];exact hR _ _ (by omega) h2 h3
 ·by_cases c:p < s
  ·rw [e1 p c];by_cases d:q < t
   ·rw [e3 q q1 d];exact hL _ _ p1 (by omega) (by omega)
   ·rw [e4 q (by omega)];exact low p q p1 c (by omega) q2
  ·rw [e2 p (by omega) p2];by_cases d:q < t
   ·rw [e3 q q1 d];exact Int.le_of_lt (high _ _ (by omega) (by omega) (by omega) (by omega))
   ·rw [e4 q (by omega)];exact hR _ _ (by omega) (by omega) q2
structure fo (f h:Nat→Ch) (a b:Nat):Prop where
 rise:bU h a b
 alike:aO f h a b
theorem lA {f:Nat→Ch}{a m b:Nat}(h1:a≤m) (h2:m≤b) (hL:bU f a m) (hR:bU f m b) (hc:¬ (a < m∧m < b)):fo f f a b:=by
 refine ⟨?_,aO.refl _ _ _⟩;rcases (show a=m∨m=b by omega) with e | e
 ·subst e;exact hR
 ·subst e;exact hL
theorem pj {f h1 h2 h3:Nat→Ch}{a m b mid s t:Nat}(T:qh f h1 a m b mid s t) (am:a≤mid) (mb:mid≤b) (M1:fo h1 h2 a mid) (M2:fo h2 h3 mid b):fo f h3 a b:=by
 refine ⟨fun p q p1 pq q2=>?_,(T.alike.trans (M1.alike.wide (Nat.le_refl _) am mb)).trans (M2.alike.wide am mb (Nat.le_refl _))⟩;by_cases c:q < mid
 ·rw [M2.alike.same p (by omega),M2.alike.same q (by omega)];exact M1.rise p q p1 pq c
 ·by_cases d:mid≤p
  ·exact M2.rise p q d pq q2
  ·obtain ⟨q',h4,h5,e5⟩:=M2.alike.find (k:=q) (by omega) q2;obtain ⟨p',h6,h7,e7⟩:=M1.alike.find (k:=p) p1 (by omega);rw [M2.alike.same p (by omega),← e5,← e7,M1.alike.same q' (by omega)];exact T.cross p' q' h6 h7 h4 h5
theorem ka (x y:Ch) (w:World) (hx:x.p.length≤140737488355328) (hy:y.p.length≤140737488355328) :
 Calls Tryz.prog 178 #[.agg #[.string (ak x.p),.bool x.g,.int .u64 x.d],.agg #[.string (ak y.p),.bool y.g,.int .u64 y.d]] w fun e w'=>e=.returned (.int .i64 (aA x.p y.p))∧aa [] w w':=by
 have hK:=((aa.refl [] w).alloc (.cells #[.string (ak x.p),.bool x.g,.int .u64 x.d] 60)).alloc (.cells #[.string (ak y.p),.bool y.g,.int .u64 y.d] 60);go_enter Tryz.func178,Tryz.ntmps178;go_wp2_with fail
 refine (gU x.p y.p _ hx hy).mono ?_;rintro e w' ⟨rfl,hK'⟩;have hK2:=hK.trans hK' (by simp);clear hK hK';go_wp2_with fail
 go_ret
 exact ⟨rfl,hK2⟩
def Bd (f:Nat→Ch) (n:Nat):Prop:=∀ k,k < n→(f k).p.length≤140737488355328
theorem Bd.alike {f h:Nat→Ch}{n a b:Nat}(H:Bd f n) (A:aO f h a b) (hb:b≤n):Bd h n:=by
 intro k hk;by_cases hc:k < a∨b≤k
 ·rw [A.same k hc];exact H k hk
 ·obtain ⟨j,h1,h2,e⟩:=A.find (k:=k) (by omega) (by omega);rw [← e];exact H j (by omega)
structure yu (h:Nat→Ch) (a j i:Nat):Prop where
 rise:∀ p q,a≤p→p < q→q≤i→p≠j→q≠j→aA (h p).p (h q).p≤0
 above:∀ q,j < q→q≤i→aA (h j).p (h q).p < 0
theorem ul {h:Nat→Ch}{a i:Nat}(H:bU h a i):yu h a i i :=
 ⟨fun p q h1 h2 h3 _ h5=>H p q h1 h2 (by omega),fun q h1 h2=>by omega⟩
theorem qS {h:Nat→Ch}{a j i:Nat}(H:yu h a j i) (hj:j≤i) (he:j=a∨∃ k,j=k+1∧a≤k∧¬ aA (h j).p (h k).p < 0):bU h a (i+1):=by
 intro p q h1 h2 h3;by_cases c1:p=j
 ·subst c1;exact Int.le_of_lt (H.above q h2 (by omega))
 ·by_cases c2:q=j
  ·subst c2;rcases he with he | ⟨k,e,hk,hn⟩
   ·omega
   ·have h4:=kC hn;by_cases c3:p=k
    ·subst c3;exact h4
    ·exact kf (H.rise p k h1 (by omega) (by omega) c1 (by omega)) h4
  ·exact H.rise p q h1 h2 (by omega) c1 c2
theorem wG {h:Nat→Ch}{a k i:Nat}(H:yu h a (k+1) i) (hk:a≤k) (hi:k+1≤i) (hlt:aA (h (k+1)).p (h k).p < 0):yu (jE h (k+1) k) a k i:=by
 have e:∀ q,q≠k→q≠k+1→jE h (k+1) k q=h q:=fun q h1 h2=>by simp only [jE];rw [if_neg h2,if_neg h1]
 have e1:jE h (k+1) k (k+1)=h k:=by simp [jE]
 have e2:jE h (k+1) k k=h (k+1):=by simp [jE]
 refine ⟨fun p q h1 h2 h3 h4 h5=>?_,fun q h1 h2=>?_⟩
 ·by_cases c1:p=k+1
  ·subst c1;rw [e1,e q h5 (by omega)];exact H.rise k q hk (by omega) h3 (by omega) (by omega)
  ·by_cases c2:q=k+1
   ·subst c2;rw [e1,e p h4 c1];exact H.rise p k h1 (by omega) (by omega) c1 (by omega)
   ·rw [e p h4 c1,e q h5 c2];exact H.rise p q h1 h2 h3 c1 c2
 ·rw [e2];by_cases c:q=k+1
  ·subst c;rw [e1];exact hlt
  ·rw [e q (by omega) c];exact H.above q (by omega) h2
theorem uv {h:Nat→Ch}{k:Nat}(hlt:aA (h (k+1)).p (h k).p < 0):aO h (jE h (k+1) k) k (k+2):=by
 rw [su];exact kP h k (fun e=>l6 hlt e.symm)
theorem sq (w:World) (g n cap a b:Nat) (f:Nat→Ch) (hR:aG w g n cap f) (hB:Bd f n) (hab:a≤b) (hb:b≤n) (hn:n≤1000000000) :
 Calls Tryz.prog 206 #[.slice (some ⟨g,0,none⟩) n cap,.int .i64 a,.int .i64 b,.func (.func 178) #[] #[]] w fun e w'=>e=.returned (.tuple #[]) ∧
  ∃ h,aG w' g n cap h∧bU h a b∧aO f h a b∧aa [g] w w':=by
 have hcap:=hR.le;have hmax:=hR.max;unfold maxLen at hmax;have HR:Hid (aG w g n cap f):=hR;clear hR;go_enter Tryz.func206,Tryz.ntmps206;go_wp2_with fail
 go_loopw [8] (fun iv wr=>∃ (i:Nat) (h:Nat→Ch),a+1≤i∧(i≤b∨i=a+1)∧iv=.int .i64 i∧Hid (aG wr g n cap h)∧Hid (bU h a i)∧Hid (aO f h a b)∧Hid (aa [g] w wr)) (fun iv _=>b - (intOf iv).toNat)
 case atStart =>
  exact ⟨a+1,f,Nat.le_refl _,.inr rfl,by go_num,HR,fun p q h1 h2 h3=>by omega,aO.refl _ _ _,aa.refl _ _⟩
 case round =>
  obtain ⟨i,h,hi1,hi2,rfl,HT,HS,HL,HK⟩:=hrel;by_cases hlt:i < b
  ·have hlt':(i:Int) < b:=by omega
   (go_wp2_with fail);go_loopw [9] (fun jv w2=>∃ (j:Nat) (h':Nat→Ch),a≤j∧j≤i∧jv=.int .i64 j∧Hid (aG w2 g n cap h')∧Hid (yu h' a j i)∧Hid (aO f h' a b)∧Hid (aa [g] w w2)) (fun jv _=>(intOf jv).toNat)
   case atStart=>exact ⟨i,h,by omega,Nat.le_refl _,rfl,HT,ul HS.out,HL,HK⟩
   case round =>
    obtain ⟨j,h',hj1,hj2,rfl,HT2,HJ,HL2,HK2⟩:=hrel;by_cases hja:j=a
    ·have hja':¬ (a:Int) < j:=by omega
     have HE:Hid (bU h' a (i+1)):=qS HJ.out hj2 (.inl hja);have hd:decide (a < j)=false:=by simp;omega
     clear hja;(go_wp2_with fail);go_region
     (go_wp2_with fail);go_roundw
     case rel=>exact ⟨i+1,h',by omega,by omega,by go_num,HT2.out.drew,HE,HL2,HK2.out.drew⟩
     case measure=>simp [intOf];omega
    ·obtain ⟨k,hk⟩:∃ k,j=k+1:=⟨j - 1,by omega⟩;have HE:Hid (j=k+1):=hk;have hja':(a:Int) < j:=by omega
     have hd:decide (a < j)=true:=by simp;omega
     have b1:(0:Int)≤j:=by omega
     have b2:(j:Int) < n:=by omega
     have b3:(0:Int)≤k:=by omega
     have b4:(k:Int) < n:=by omega
     have b5:IntKind.i64.wrap ((j:Int) - 1)=k:=by rw [IntWalk.i64_in _ (by omega)];omega
     have hA:=HT2.out.ch (i:=j) (by omega);have hC:=HT2.out.ch (i:=k) (by omega);have hB2:=hB.alike HL2.out hb;have cc:=fun w'=>ka (h' j) (h' k) w' (hB2 _ (by omega)) (hB2 _ (by omega));obtain ⟨c0,c1,c2⟩:=hA;obtain ⟨d0,d1,d2⟩:=hC;clear hB2 hk;go_wp2_with fail
     go_region_held3 (fun w'=>w'.cell? ⟨g,j*3,none⟩=some (.string (ak (h' j).p))∧w'.cell? ⟨g,j*3+1,none⟩=some (.bool (h' j).g)∧w'.cell? ⟨g,j*3+2,none⟩=some (.int .u64 (h' j).d)∧w'.cell? ⟨g,k*3,none⟩=some (.string (ak (h' k).p))∧w'.cell? ⟨g,k*3+1,none⟩=some (.bool (h' k).g)∧w'.cell? ⟨g,k*3+2,none⟩=some (.int .u64 (h' k).d))
      (first | go_keep | exact ⟨hK1.cell c0 (by simp),hK1.cell c1 (by simp),hK1.cell c2 (by simp),hK1.cell d0 (by simp),hK1.cell d1 (by simp),hK1.cell d2 (by simp)⟩)
      (first | (go_at_call 178;refine (cc _).mono ?_;rintro e w1 ⟨rfl,hKb⟩;have hK1:aa [] wr w1:=(aa.refl [] wr).drew.trans hKb (by simp)))
     have HT3:Hid (aG w1 g n cap h'):=HT2.out.kept hK1 (by simp);have HK3:Hid (aa [g] w w1):=HK2.out.trans hK1 (by simp);by_cases hc:aA (h' j).p (h' k).p < 0
     ·have hkj:k < j:=by have:=HE.out;omega
      have hfz:=HT3.out.froz;have e0:=hK1.cell c0 (by simp);have e1:=hK1.cell c1 (by simp);have e2:=hK1.cell c2 (by simp);have e3:=hK1.cell d0 (by simp);have e4:=hK1.cell d1 (by simp);have e5:=hK1.cell d2 (by simp);have HN:Hid (aG (jk (jk w1 g j (h' k)) g k (h' j)).drew g n cap (jE h' j k)):=HT3.out.swapped (by omega) (by omega) (fun _=>rfl);have HC:Hid (aA (h' j).p (h' k).p < 0):=hc;clear c0 c1 c2 d0 d1 d2 hKb hK1 cc;(go_wp2_with fail);go_region
      (go_wp2_with fail);go_roundw
      case rel =>
       have hC:=HC.out;have hJ:=HJ.out;have hL:=HL2.out;have hE:=HE.out;subst hE;exact ⟨k,_,by omega,by omega,by go_num,HN,wG hJ (by omega) hj2 hC,hL.trans ((uv hC).wide (by omega) (by omega) (by omega)),HK3.out.trans (fK w1 g (k+1) k (h' k) (h' (k+1))) (by simp)⟩
      case measure=>simp [intOf];have:=HE.out;omega
     ·have HD:Hid (bU h' a (i+1)):=qS HJ.out hj2 (.inr ⟨k,HE.out,by have:=HE.out;omega,hc⟩);clear c0 c1 c2 d0 d1 d2 hKb hK1 cc;(go_wp2_with fail);go_roundw
      case rel=>exact ⟨i+1,h',by omega,by omega,by go_num,HT3,HD,HL2,HK3⟩
      case measure=>simp [intOf];omega
  ·have hlt':¬ (i:Int) < b:=by omega
   (go_wp2_with fail);go_returns
   exact ⟨rfl,h,HT.out,fun p q h1 h2 h3=>HS.out p q h1 h2 (by omega),HL.out,HK.out⟩
structure DY (f:Nat→Ch) (a b i j:Nat):Prop where
 i1:a+1≤i
 i2:i≤j
 i3:j≤b
 lt:∀ q,a+1≤q→q < i→aA (f q).p (f a).p < 0
 ge:∀ q,j≤q→q < b→0≤aA (f q).p (f a).p
def CR (w:World) (g n cap a b:Nat) (f:Nat→Ch) (iv jv:Value) (wr:World):Prop :=
 ∃ (i j:Nat),iv=.int .i64 i∧jv=.int .i64 j∧DY f a b i j∧aG wr g n cap f∧aa [g] w wr
theorem A1 (w:World) (g n cap a m b:Nat) (hm:m=a+1) (f:Nat→Ch) (hR:aG w g n cap f) (hB:Bd f n) (hab:a+1 < b) (hb:b≤n) (hn:n≤1000000000) (hS:bU f (a+1) b) :
 Calls Tryz.prog 207 #[.slice (some ⟨g,0,none⟩) n cap,.int .i64 a,.int .i64 m,.int .i64 b,.func (.func 178) #[] #[]] w fun e w'=>e=.returned (.tuple #[]) ∧
  ∃ h,aG w' g n cap h∧fo f h a b∧aa [g] w w':=by
 have hcap:=hR.le;have hmax:=hR.max;unfold maxLen at hmax;have HR:Hid (aG w g n cap f):=hR;have hm':(m:Int) - a=1:=by omega
 have HM:Hid (m=a+1):=hm;clear hR hm;go_enter Tryz.func207,Tryz.ntmps207;go_wp2_with fail
 go_loopw [10,11] (fun iv jv wr=>CR w g n cap a b f iv jv wr) (fun iv jv _=>(intOf jv).toNat - (intOf iv).toNat)
 case atStart =>
  exact ⟨a+1,b,by rw [HM.out],rfl,⟨Nat.le_refl _,by omega,Nat.le_refl _,fun q h1 h2=>by omega,fun q h1 h2=>by omega⟩,HR.out,aa.refl _ _⟩
 case round =>
  obtain ⟨i,j,rfl,rfl,⟨i1,i2,i3,hA',hZ'⟩,hT',hK'⟩:=hrel;have HT:Hid (aG wr g n cap f):=hT';have HK:Hid (aa [g] w wr):=hK';have HA:Hid (∀ q,a+1≤q→q < i→aA (f q).p (f a).p < 0):=hA';have HZ:Hid (∀ q,j≤q→q < b→0≤aA (f q).p (f a).p):=hZ';clear hA' hZ' hT' hK';by_cases hlt:i < j
  ·have hlt':(i:Int) < j:=by omega
   obtain ⟨c,hc⟩:∃ c,c=(i+j) / 2:=⟨_,rfl⟩;have HC:Hid (i≤c∧c < j):=by show i≤c∧c < j;omega
   have ec:((i:Int)+j) / 2=c:=by omega
   have b1:(0:Int)≤c:=by omega
   have b2:(c:Int) < n:=by omega
   have b3:(0:Int)≤a:=by omega
   have b4:(a:Int) < n:=by omega
   have hC:=HT.out.ch (i:=c) (by omega);have hA:=HT.out.ch (i:=a) (by omega);have cc:=fun w'=>ka (f c) (f a) w' (hB _ (by omega)) (hB _ (by omega));obtain ⟨c0,c1,c2⟩:=hC;obtain ⟨d0,d1,d2⟩:=hA;clear hc;go_wp2_with fail
   go_region_held3 (fun w'=>w'.cell? ⟨g,c*3,none⟩=some (.string (ak (f c).p))∧w'.cell? ⟨g,c*3+1,none⟩=some (.bool (f c).g)∧w'.cell? ⟨g,c*3+2,none⟩=some (.int .u64 (f c).d)∧w'.cell? ⟨g,a*3,none⟩=some (.string (ak (f a).p))∧w'.cell? ⟨g,a*3+1,none⟩=some (.bool (f a).g)∧w'.cell? ⟨g,a*3+2,none⟩=some (.int .u64 (f a).d))
    (first | go_keep | exact ⟨hK1.cell c0 (by simp),hK1.cell c1 (by simp),hK1.cell c2 (by simp),hK1.cell d0 (by simp),hK1.cell d1 (by simp),hK1.cell d2 (by simp)⟩)
    (first | (go_at_call 178;refine (cc _).mono ?_;rintro e w1 ⟨rfl,hKb⟩;have hK1:aa [] wr w1:=(aa.refl [] wr).drew.trans hKb (by simp)))
   have HT3:Hid (aG w1 g n cap f):=HT.out.kept hK1 (by simp);have HK3:Hid (aa [g] w w1):=HK.out.trans hK1 (by simp);clear c0 c1 c2 d0 d1 d2 hKb hK1 cc;by_cases hcm:aA (f c).p (f a).p < 0
   ·have HQ:Hid (∀ q,a+1≤q→q < c+1→aA (f q).p (f a).p < 0):=fun q h1 h2=>yV (gu hS h1 (by omega) (by have:=HC.out;omega)) hcm;(go_wp2_with fail);go_roundw
    case rel=>exact ⟨c+1,j,by go_num,rfl,⟨by have:=HC.out;omega,by have:=HC.out;omega,i3,HQ.out,HZ.out⟩,HT3.out,HK3.out⟩
    case measure=>simp [intOf];have:=HC.out;omega
   ·have HQ:Hid (∀ q,c≤q→q < b→0≤aA (f q).p (f a).p):=fun q h1 h2=>by
     rcases Int.lt_or_le (aA (f q).p (f a).p) 0 with h3 | h3
     ·exact absurd (yV (gu hS (by have:=HC.out;omega) h1 h2) h3) hcm
     ·exact h3
    (go_wp2_with fail);go_roundw
    case rel=>exact ⟨i,c,rfl,rfl,⟨i1,HC.out.1,by have:=HC.out;omega,HA.out,HQ.out⟩,HT3.out,HK3.out⟩
    case measure=>simp [intOf];have:=HC.out;omega
  ·have hlt':¬ (i:Int) < j:=by omega
   obtain rfl:i=j:=by omega
   (go_wp2_with fail);go_loopw [13] (fun kv w2=>∃ (k:Nat) (h:Nat→Ch),a≤k∧k+1≤i∧kv=.int .i64 k∧Hid (aG w2 g n cap h)∧Hid (∀ p,h p=pz f a k p)∧Hid (aO f h a b)∧Hid (aa [g] w w2)) (fun kv _=>i - (intOf kv).toNat)
   case atStart=>exact ⟨a,f,Nat.le_refl _,by omega,rfl,HT,fun p=>(zk f a p).symm,aO.refl _ _ _,HK⟩
   case round =>
    obtain ⟨k,h,k1,k2,rfl,HT2,HE,HL,HK2⟩:=hrel;by_cases hk:k+1 < i
    ·have hk':(k:Int) < (i:Int) - 1:=by omega
     have hC:=HT2.out.ch (i:=k) (by omega);have hD:=HT2.out.ch (i:=k+1) (by omega);have hfz:=HT2.out.froz;have HN:Hid (aG (jk (jk wr g k (h (k+1))) g (k+1) (h k)).drew g n cap (jE h k (k+1))):=HT2.out.swapped (by omega) (by omega) (fun _=>rfl);obtain ⟨c0,c1,c2⟩:=hC;obtain ⟨d0,d1,d2⟩:=hD;(go_wp2_with fail);go_region
     (go_wp2_with fail);go_roundw
     case rel =>
      refine ⟨k+1,_,by omega,by omega,by go_num,HN,fun p=>?_,wZ HL.out HE.out k1 hk i3 HA.out,HK2.out.trans (fK wr g k (k+1) (h (k+1)) (h k)) (by simp)⟩;rw [yG f k1 p];have:h=pz f a k:=funext HE.out
      rw [this]
     case measure=>simp [intOf];omega
    ·have hk':¬ (k:Int) < (i:Int) - 1:=by omega
     (go_wp2_with fail);go_returns
     have e:h=pz f a (i - 1):=by
      rw [show i - 1=k by omega];exact funext HE.out
     exact ⟨rfl,h,HT2.out,⟨by rw [e];exact Bj hS i1 i3 HA.out (fun q h1 h2=>by have:=HZ.out q h1 h2;omega),HL.out⟩,HK2.out⟩
structure DD (f:Nat→Ch) (a m i j:Nat):Prop where
 i1:a≤i
 i2:i≤j
 i3:j≤m
 ge:∀ q,a≤q→q < i→0≤aA (f m).p (f q).p
 lt:∀ q,j≤q→q < m→aA (f m).p (f q).p < 0
def CT (w:World) (g n cap a m:Nat) (f:Nat→Ch) (iv jv:Value) (wr:World):Prop :=
 ∃ (i j:Nat),iv=.int .i64 i∧jv=.int .i64 j∧DD f a m i j∧aG wr g n cap f∧aa [g] w wr
theorem yJ (w:World) (g n cap a m b:Nat) (hm:b=m+1) (f:Nat→Ch) (hR:aG w g n cap f) (hB:Bd f n) (hab:a < m) (ham:m≠a+1) (hb:b≤n) (hn:n≤1000000000) (hS:bU f a m) :
 Calls Tryz.prog 207 #[.slice (some ⟨g,0,none⟩) n cap,.int .i64 a,.int .i64 m,.int .i64 b,.func (.func 178) #[] #[]] w fun e w'=>e=.returned (.tuple #[]) ∧
  ∃ h,aG w' g n cap h∧fo f h a b∧aa [g] w w':=by
 have hcap:=hR.le;have hmax:=hR.max;unfold maxLen at hmax;have HR:Hid (aG w g n cap f):=hR;have hm':(b:Int) - m=1:=by omega
 have ha':¬ (m:Int) - a=1:=by omega
 have hA1:((m:Int) - a==1)=false:=by simpa using ha'
 have HM:Hid (b=m+1):=hm;have hmn:m < n:=by omega
 clear hR hm ham hb;go_enter Tryz.func207,Tryz.ntmps207;go_wp2_with fail
 go_loopw [14,15] (fun iv jv wr=>CT w g n cap a m f iv jv wr) (fun iv jv _=>(intOf jv).toNat - (intOf iv).toNat)
 case atStart =>
  exact ⟨a,m,rfl,rfl,⟨Nat.le_refl _,by omega,Nat.le_refl _,fun q h1 h2=>by omega,fun q h1 h2=>by omega⟩,HR.out,aa.refl _ _⟩
 case round =>
  obtain ⟨i,j,rfl,rfl,⟨i1,i2,i3,hA',hZ'⟩,hT',hK'⟩:=hrel;have HT:Hid (aG wr g n cap f):=hT';have HK:Hid (aa [g] w wr):=hK';have HA:Hid (∀ q,a≤q→q < i→0≤aA (f m).p (f q).p):=hA';have HZ:Hid (∀ q,j≤q→q < m→aA (f m).p (f q).p < 0):=hZ';clear hA' hZ' hT' hK';by_cases hlt:i < j
  ·have hlt':(i:Int) < j:=by omega
   obtain ⟨c,hc⟩:∃ c,c=(i+j) / 2:=⟨_,rfl⟩;have HC:Hid (i≤c∧c < j):=by show i≤c∧c < j;omega
   have ec:((i:Int)+j) / 2=c:=by omega
   have b1:(0:Int)≤c:=by omega
   have b2:(c:Int) < n:=by omega
   have b3:(0:Int)≤m:=by omega
   have b4:(m:Int) < n:=by omega
   have hC:=HT.out.ch (i:=c) (by omega);have hA:=HT.out.ch (i:=m) (by omega);have cc:=fun w'=>ka (f m) (f c) w' (hB _ (by omega)) (hB _ (by omega));obtain ⟨c0,c1,c2⟩:=hC;obtain ⟨d0,d1,d2⟩:=hA;clear hc;go_wp2_with fail
   go_region_held3 (fun w'=>w'.cell? ⟨g,c*3,none⟩=some (.string (ak (f c).p))∧w'.cell? ⟨g,c*3+1,none⟩=some (.bool (f c).g)∧w'.cell? ⟨g,c*3+2,none⟩=some (.int .u64 (f c).d)∧w'.cell? ⟨g,m*3,none⟩=some (.string (ak (f m).p))∧w'.cell? ⟨g,m*3+1,none⟩=some (.bool (f m).g)∧w'.cell? ⟨g,m*3+2,none⟩=some (.int .u64 (f m).d))
    (first | go_keep | exact ⟨hK1.cell c0 (by simp),hK1.cell c1 (by simp),hK1.cell c2 (by simp),hK1.cell d0 (by simp),hK1.cell d1 (by simp),hK1.cell d2 (by simp)⟩)
    (first | (go_at_call 178;refine (cc _).mono ?_;rintro e w1 ⟨rfl,hKb⟩;have hK1:aa [] wr w1:=(aa.refl [] wr).drew.trans hKb (by simp)))
   have HT3:Hid (aG w1 g n cap f):=HT.out.kept hK1 (by simp);have HK3:Hid (aa [g] w w1):=HK.out.trans hK1 (by simp);clear c0 c1 c2 d0 d1 d2 hKb hK1 cc;by_cases hcm:aA (f m).p (f c).p < 0
   ·have HQ:Hid (∀ q,c≤q→q < m→aA (f m).p (f q).p < 0):=fun q h1 h2=>yf hcm (gu hS (by have:=HC.out;omega) h1 h2);have hcn:(!decide (aA (f m).p (f c).p < 0))=false:=by rw [decide_eq_true hcm];rfl
    simp only [hcn];(go_wp2_with fail);go_roundw
    case rel=>exact ⟨i,c,rfl,rfl,⟨i1,HC.out.1,by have:=HC.out;omega,HA.out,HQ.out⟩,HT3.out,HK3.out⟩
    case measure=>simp [intOf];have:=HC.out;omega
   ·have HQ:Hid (∀ q,a≤q→q < c+1→0≤aA (f m).p (f q).p):=fun q h1 h2=>by
     rcases Int.lt_or_le (aA (f m).p (f q).p) 0 with h3 | h3
     ·exact absurd (yf h3 (gu hS h1 (by omega) (by have:=HC.out;omega))) hcm
     ·exact h3
    have hcn:(!decide (aA (f m).p (f c).p < 0))=true:=by rw [decide_eq_false hcm];rfl
    simp only [hcn];(go_wp2_with fail);go_roundw
    case rel=>exact ⟨c+1,j,by go_num,rfl,⟨by have:=HC.out;omega,by have:=HC.out;omega,i3,HQ.out,HZ.out⟩,HT3.out,HK3.out⟩
    case measure=>simp [intOf];have:=HC.out;omega
  ·have hlt':¬ (i:Int) < j:=by omega
   obtain rfl:i=j:=by omega
   (go_wp2_with fail);go_loopw [17] (fun kv w2=>∃ (k:Nat) (h:Nat→Ch),i≤k∧k≤m∧kv=.int .i64 k∧Hid (aG w2 g n cap h)∧Hid (∀ p,h p=qk f m k p)∧Hid (aO f h a b)∧Hid (aa [g] w w2)) (fun kv _=>(intOf kv).toNat)
   case atStart=>exact ⟨m,f,by omega,Nat.le_refl _,rfl,HT,fun p=>(z8 f m p).symm,aO.refl _ _ _,HK⟩
   case round =>
    obtain ⟨k,h,k1,k2,rfl,HT2,HE,HL,HK2⟩:=hrel;by_cases hk:i < k
    ·have hk':(i:Int) < k:=by omega
     obtain ⟨l,hl⟩:∃ l,k=l+1:=⟨k - 1,by omega⟩;have HLK:Hid (k=l+1):=hl;have hC:=HT2.out.ch (i:=k) (by omega);have hD:=HT2.out.ch (i:=l) (by omega);have hfz:=HT2.out.froz;have HN:Hid (aG (jk (jk wr g k (h l)) g l (h k)).drew g n cap (jE h k l)):=HT2.out.swapped (by omega) (by omega) (fun _=>rfl);have b5:IntKind.i64.wrap ((k:Int) - 1)=l:=by rw [IntWalk.i64_in _ (by omega)];omega
     have b6:(k:Int) - 1=l:=by omega
     have hlk:l < k:=by omega
     have hln:l < n:=by omega
     obtain ⟨c0,c1,c2⟩:=hC;obtain ⟨d0,d1,d2⟩:=hD;clear hl;(go_wp2_with fail);go_region
     (go_wp2_with fail);go_roundw
     case rel =>
      have hl:=HLK.out;subst hl;refine ⟨l,_,by omega,by omega,by go_num,HN,fun p=>?_,xw HL.out HE.out i1 (by omega) k2 (by have:=HM.out;omega) HZ.out,HK2.out.trans (fK wr g (l+1) l (h l) (h (l+1))) (by simp)⟩;rw [zx f k2 p];have:h=qk f m (l+1):=funext HE.out
      rw [this]
     case measure=>simp [intOf];have:=HLK.out;omega
    ·have hk':¬ (i:Int) < k:=by omega
     (go_wp2_with fail);go_returns
     have e:h=qk f m i:=by
      rw [show i=k by omega];exact funext HE.out
     exact ⟨rfl,h,HT2.out,⟨by rw [e,HM.out];exact Ap hS i1 i3 HZ.out (fun q h1 h2=>by have:=HA.out q h1 h2;omega),HL.out⟩,HK2.out⟩
def CJ (w:World) (g n cap nn lo hi:Nat) (f:Nat→Ch) (sv rv:Value) (wr:World):Prop :=
 ∃ (s r:Nat),sv=.int .i64 s∧rv=.int .i64 r∧(lo≤s∧s≤r∧r≤hi)∧tE f nn lo hi s r∧aG wr g n cap f∧aa [g] w wr
def BJ (N:Nat):Prop:=∀ (w:World) (g n cap a m b:Nat) (f:Nat→Ch),b - a≤N→aG w g n cap f→Bd f n→a < m→m < b→b≤n→n≤1000000000→bU f a m→bU f m b →
 Calls Tryz.prog 207 #[.slice (some ⟨g,0,none⟩) n cap,.int .i64 a,.int .i64 m,.int .i64 b,.func (.func 178) #[] #[]] w fun e w'=>e=.returned (.tuple #[]) ∧
  ∃ h,aG w' g n cap h∧fo f h a b∧aa [g] w w'
theorem zQ (N:Nat) (ih:BJ N) (w:World) (g n cap a m b:Nat) (f:Nat→Ch) (hN:b - a≤N+1) (hR:aG w g n cap f) (hB:Bd f n) (ham:a+1 < m) (hmb:m+1 < b) (hb:b≤n) (hn:n≤1000000000) (hL:bU f a m) (hS:bU f m b) :
 Calls Tryz.prog 207 #[.slice (some ⟨g,0,none⟩) n cap,.int .i64 a,.int .i64 m,.int .i64 b,.func (.func 178) #[] #[]] w fun e w'=>e=.returned (.tuple #[]) ∧
  ∃ h,aG w' g n cap h∧fo f h a b∧aa [g] w w':=by
 have hcap:=hR.le;have hmax:=hR.max;unfold maxLen at hmax;have HR:Hid (aG w g n cap f):=hR;have hA1:((m:Int) - a==1)=false:=by simp;omega
 have hA2:((b:Int) - m==1)=false:=by simp;omega
 obtain ⟨mid,hmid⟩:∃ mid,mid=(a+b) / 2:=⟨_,rfl⟩;obtain ⟨nn,hnn⟩:∃ nn,nn=mid+m:=⟨_,rfl⟩;have emid:((a:Int)+b) / 2=mid:=by omega
 have enn:(mid:Int)+m=nn:=by omega
 have HMID:Hid (mid=(a+b) / 2):=hmid;have HNN:Hid (nn=mid+m):=hnn;obtain ⟨pp,hpp⟩:∃ pp,pp=nn - 1:=⟨_,rfl⟩;have epp:(nn:Int) - 1=pp:=by omega
 have HPP:Hid (pp=nn - 1):=hpp;clear hR hmid hnn hpp;go_enter Tryz.func207,Tryz.ntmps207;go_upto_if 140 with fail
 go_cut [20,21] from 25 to 146 (fun s20 s21 wx=>∃ lo hi:Nat,s20=.int .i64 lo∧s21=.int .i64 hi∧w=wx∧Hid ((mid < m∧lo=mid+m - b∧hi=mid)∨(m≤mid∧lo=a∧hi=m)))
 case first =>
  by_cases hm:mid < m
  ·have hm':(mid:Int) < m:=by omega
   (go_wp2_with fail);go_meet
   refine ⟨nn - b,mid,?_,rfl,rfl,.inl ⟨hm,by rw [HNN.out],rfl⟩⟩;have h1:=HNN.out;have h2:=HMID.out;go_num
  ·have hm':¬ (mid:Int) < m:=by omega
   (go_wp2_with fail);go_meet
   exact ⟨a,m,rfl,rfl,rfl,.inr ⟨by omega,rfl,rfl⟩⟩
 case rest =>
  obtain ⟨lo,hi,rfl,rfl,rfl,HLH⟩:=hcut
  have HB1:Hid (a≤lo∧lo≤hi∧hi≤m∧mid+m - lo≤b∧m≤mid+m - hi):=by
   have h1:=HLH.out;have h2:=HMID.out;show a≤lo∧lo≤hi∧hi≤m∧mid+m - lo≤b∧m≤mid+m - hi;omega
  (go_wp2_with fail);go_loopw [20,21] (fun sv rv wr=>CJ w g n cap nn lo hi f sv rv wr) (fun sv rv _=>(intOf rv).toNat - (intOf sv).toNat)
  case atStart =>
   have:=HB1.out
   exact ⟨lo,hi,rfl,rfl,⟨by omega,by omega,by omega⟩,⟨.inl rfl,.inl rfl⟩,HR.out,aa.refl _ _⟩
  case round =>
   obtain ⟨s,r,rfl,rfl,hsr,hC',hT',hK'⟩:=hrel;have HSR:Hid (lo≤s∧s≤r∧r≤hi):=hsr;have HC:Hid (tE f nn lo hi s r):=hC';have HT:Hid (aG wr g n cap f):=hT';have HK:Hid (aa [g] w wr):=hK';have hrm:r≤m:=by have:=HB1.out;omega
   clear hC' hT' hK';by_cases hlt:s < r
   ·have hlt':(s:Int) < r:=by omega
    obtain ⟨c,hc⟩:∃ c,c=(s+r) / 2:=⟨_,rfl⟩;obtain ⟨q,hq⟩:∃ q,q=nn - 1 - c:=⟨_,rfl⟩;have HCC:Hid (s≤c∧c < r):=by show s≤c∧c < r;omega
    have HQ:Hid (q=nn - 1 - c):=hq;have ec:((s:Int)+r) / 2=c:=by omega
    have hcq:c < n∧q < n∧(pp:Int) - c=q:=by
     have h1:=HB1.out;have h2:=HNN.out;have h3:=HPP.out;omega
    have b1:(0:Int)≤c:=by omega
    have b2:(c:Int) < n:=by omega
    have b3:(0:Int)≤q:=by omega
    have b4:(q:Int) < n:=by omega
    have b5:IntKind.i64.wrap ((pp:Int) - c)=q:=by rw [IntWalk.i64_in _ (by omega)];omega
    have hC:=HT.out.ch (i:=c) (by omega);have hA:=HT.out.ch (i:=q) (by omega);have cc:=fun w'=>ka (f q) (f c) w' (hB _ (by omega)) (hB _ (by omega));obtain ⟨c0,c1,c2⟩:=hC;obtain ⟨d0,d1,d2⟩:=hA;clear hc hq hcq hsr;go_wp2_with fail
    go_region_held3 (fun w'=>w'.cell? ⟨g,c*3,none⟩=some (.string (ak (f c).p))∧w'.cell? ⟨g,c*3+1,none⟩=some (.bool (f c).g)∧w'.cell? ⟨g,c*3+2,none⟩=some (.int .u64 (f c).d)∧w'.cell? ⟨g,q*3,none⟩=some (.string (ak (f q).p))∧w'.cell? ⟨g,q*3+1,none⟩=some (.bool (f q).g)∧w'.cell? ⟨g,q*3+2,none⟩=some (.int .u64 (f q).d))
     (first | go_keep | exact ⟨hK1.cell c0 (by simp),hK1.cell c1 (by simp),hK1.cell c2 (by simp),hK1.cell d0 (by simp),hK1.cell d1 (by simp),hK1.cell d2 (by simp)⟩)
     (first | (go_at_call 178;refine (cc _).mono ?_;rintro e w1 ⟨rfl,hKb⟩;have hK1:aa [] wr w1:=(aa.refl [] wr).drew.trans hKb (by simp)))
    have HT3:Hid (aG w1 g n cap f):=HT.out.kept hK1 (by simp);have HK3:Hid (aa [g] w w1):=HK.out.trans hK1 (by simp);clear c0 c1 c2 d0 d1 d2 hKb hK1 cc;by_cases hcm:aA (f q).p (f c).p < 0
    ·have hcn:(!decide (aA (f q).p (f c).p < 0))=false:=by rw [decide_eq_true hcm];rfl
     have HM:Hid (aA (f q).p (f c).p < 0):=hcm;simp only [hcn];(go_wp2_with fail);go_roundw
     case rel =>
      have h1:=HCC.out;have h2:=HSR.out;exact ⟨s,c,rfl,rfl,⟨by omega,by omega,by omega⟩,wo HC.out (by omega) (by rw [← HQ.out];exact HM.out),HT3.out,HK3.out⟩
     case measure=>simp [intOf];have:=HCC.out;omega
    ·have hcn:(!decide (aA (f q).p (f c).p < 0))=true:=by rw [decide_eq_false hcm];rfl
     have HM:Hid (0≤aA (f q).p (f c).p):=by show 0≤aA (f q).p (f c).p;omega
     simp only [hcn];(go_wp2_with fail);go_roundw
     case rel =>
      have h1:=HCC.out;have h2:=HSR.out;have h3:=HB1.out;have h4:=HNN.out;have h5:=HM.out;exact ⟨c+1,r,by go_num,rfl,⟨by omega,by omega,by omega⟩,A3 HC.out (by omega) (by omega) (by rw [← HQ.out];omega),HT3.out,HK3.out⟩
     case measure=>simp [intOf];have:=HCC.out;omega
   ·have hlt':¬ (s:Int) < r:=by omega
    obtain rfl:s=r:=by omega
    obtain ⟨t,ht⟩:∃ t,t=nn - s:=⟨_,rfl⟩
    have HCut:Hid (A6 f a m b mid s t):=by
     have h1:=HC.out;rw [HNN.out] at h1 ht;show A6 f a m b mid s t;rw [ht];exact AZ h1 (by omega) (by omega) hsr.1 hsr.2.2 hL hS HMID.out HLH.out
    have et:(nn:Int) - s=t:=by have:=HNN.out;omega
    have hc1:=HCut.out.a1;have hc2:=HCut.out.a2;have hc3:=HCut.out.a3;have hc4:=HCut.out.a4;have hc5:=HCut.out.am;have hc6:=HCut.out.mb;have hc7:mid < b∧a < mid:=by have:=HMID.out;omega
    clear ht hsr;go_upto_region 39 with fail
    go_cut [185] from 178 to 185 (fun sv wx=>sv=.bool (decide (s < m∧m < t))∧wr=wx)
    case first =>
     by_cases x1:s < m
     ·have x1':(s:Int) < m:=by omega
      by_cases x2:m < t
      ·have x2':(m:Int) < t:=by omega
       (go_wp2_with fail);go_meet
       exact ⟨by simp [x1,x2],rfl⟩
      ·have x2':¬ (m:Int) < t:=by omega
       (go_wp2_with fail);go_meet
       exact ⟨by simp [x1,x2],rfl⟩
     ·have x1':¬ (s:Int) < m:=by omega
      (go_wp2_with fail);go_meet
      exact ⟨by simp [x1],rfl⟩
    case rest =>
     obtain ⟨rfl,rfl⟩:=hcut;go_upto_if 185 with fail
     go_cut [] from 25 to 219 (fun wx=>∃ h1,aG wx g n cap h1∧qh f h1 a m b mid s t∧aa [g] w wx)
     case first =>
      by_cases xc:s < m∧m < t
      ·rw [decide_eq_true xc];(go_wp2_with fail);refine (qP _ g n cap s m t f _ HT.out xc.1 xc.2 (by omega)).mono ?_;rintro e w2 ⟨rfl,hT2,hK2⟩;have HT2:Hid (aG w2 g n cap (jB f s m t)):=hT2;have HK2:Hid (aa [g] w w2):=HK.out.trans hK2 (by simp);clear hT2 hK2;(go_wp2_with fail);go_meet
       exact ⟨_,HT2.out,oC HCut.out hL hS (fun _=>rfl),HK2.out⟩
      ·rw [decide_eq_false xc];(go_wp2_with fail);go_meet
       exact ⟨f,HT.out,oC HCut.out hL hS (fun k=>(wH f hc2 hc3 xc k).symm),HK.out⟩
     case rest =>
      obtain ⟨h1,hT1,hTu,hK1⟩:=hcut;have HT1:Hid (aG wc g n cap h1):=hT1;have HTu:Hid (qh f h1 a m b mid s t):=hTu;have HK1:Hid (aa [g] w wc):=hK1;clear hT1 hTu hK1;obtain ⟨w1,hw1⟩:∃ w1,w1=wc:=⟨_,rfl⟩;subst hw1;go_upto_region 41 with fail
      go_cut [199] from 192 to 199 (fun sv wx=>sv=.bool (decide (a < s∧s < mid))∧w1=wx)
      case first =>
       by_cases x1:a < s
       ·have x1':(a:Int) < s:=by omega
        by_cases x2:s < mid
        ·have x2':(s:Int) < mid:=by omega
         (go_wp2_with fail);go_meet
         exact ⟨by simp [x1,x2],rfl⟩
        ·have x2':¬ (s:Int) < mid:=by omega
         (go_wp2_with fail);go_meet
         exact ⟨by simp [x1,x2],rfl⟩
       ·have x1':¬ (a:Int) < s:=by omega
        (go_wp2_with fail);go_meet
        exact ⟨by simp [x1],rfl⟩
      case rest =>
       obtain ⟨rfl,rfl⟩:=hcut;go_upto_if 199 with fail
       go_cut [] from 25 to 219 (fun wx=>∃ h2,aG wx g n cap h2∧fo h1 h2 a mid∧aa [g] w wx)
       case first =>
        by_cases xc:a < s∧s < mid
        ·rw [decide_eq_true xc];(go_wp2_with fail);refine (ih _ g n cap a s mid h1 (by omega) HT1.out (hB.alike HTu.out.alike hb) xc.1 xc.2 (by omega) hn HTu.out.r1 HTu.out.r2).mono ?_;rintro e w2 ⟨rfl,h2,hT2,hM2,hK2⟩;have HT2:Hid (aG w2 g n cap h2):=hT2;have HM2:Hid (fo h1 h2 a mid):=hM2;have HK2:Hid (aa [g] w w2):=HK1.out.trans hK2 (by simp);clear hT2 hM2 hK2;(go_wp2_with fail);go_meet
         exact ⟨h2,HT2.out,HM2.out,HK2.out⟩
        ·rw [decide_eq_false xc];(go_wp2_with fail);go_meet
         exact ⟨h1,HT1.out,lA (m:=s) hc1 (by have:=HCut.out.sum;omega) HTu.out.r1 HTu.out.r2 xc,HK1.out⟩
       case rest =>
        obtain ⟨h2,hT2,hM2,hK2⟩:=hcut;have HT2:Hid (aG wc g n cap h2):=hT2;have HM2:Hid (fo h1 h2 a mid):=hM2;have HK2:Hid (aa [g] w wc):=hK2;have hB2:Bd h2 n:=(hB.alike HTu.out.alike hb).alike hM2.alike (by omega);have hmt:mid≤t:=by have:=HCut.out.sum;omega
        have HR3:Hid (bU h2 mid t):=fun p q h5 h6 h7=>by rw [hM2.alike.same p (by omega),hM2.alike.same q (by omega)];exact HTu.out.r3 p q h5 h6 h7
        have HR4:Hid (bU h2 t b):=fun p q h5 h6 h7=>by rw [hM2.alike.same p (by omega),hM2.alike.same q (by omega)];exact HTu.out.r4 p q h5 h6 h7
        clear hT2 hM2 hK2;obtain ⟨w3,hw3⟩:∃ w3,w3=wc:=⟨_,rfl⟩;subst hw3;go_upto_region 43 with fail
        go_cut [213] from 206 to 213 (fun sv wx=>sv=.bool (decide (mid < t∧t < b))∧w3=wx)
        case first =>
         by_cases x1:mid < t
         ·have x1':(mid:Int) < t:=by omega
          by_cases x2:t < b
          ·have x2':(t:Int) < b:=by omega
           (go_wp2_with fail);go_meet
           exact ⟨by simp [x1,x2],rfl⟩
          ·have x2':¬ (t:Int) < b:=by omega
           (go_wp2_with fail);go_meet
           exact ⟨by simp [x1,x2],rfl⟩
         ·have x1':¬ (mid:Int) < t:=by omega
          (go_wp2_with fail);go_meet
          exact ⟨by simp [x1],rfl⟩
        case rest =>
         obtain ⟨rfl,rfl⟩:=hcut;go_upto_if 213 with fail
         by_cases xc:mid < t∧t < b
         ·rw [decide_eq_true xc];(go_wp2_with fail);refine (ih _ g n cap mid t b h2 (by omega) HT2.out hB2 xc.1 xc.2 hb hn HR3.out HR4.out).mono ?_;rintro e w4 ⟨rfl,h3,hT3,hM3,hK3⟩;have HT3:Hid (aG w4 g n cap h3):=hT3;have HM3:Hid (fo h2 h3 mid b):=hM3;have HK3:Hid (aa [g] w w4):=HK2.out.trans hK3 (by simp);clear hT3 hM3 hK3;(go_wp2_with fail);go_returns
          exact ⟨rfl,h3,HT3.out,pj HTu.out hc5 hc6 HM2.out HM3.out,HK3.out⟩
         ·rw [decide_eq_false xc];(go_wp2_with fail);go_returns
          exact ⟨rfl,h2,HT2.out,pj HTu.out hc5 hc6 HM2.out (lA (m:=t) (by omega) (by omega) HR3.out HR4.out xc),HK2.out⟩
theorem Bp (N:Nat):BJ N:=by
 induction N with
 | zero=>intro w g n cap a m b f h1 _ _ h2 h3;omega
 | succ N ih =>
   intro w g n cap a m b f h1 hR hB ham hmb hb hn hL hS;by_cases e1:m=a+1
   ·exact A1 w g n cap a m b e1 f hR hB (by omega) hb hn (by rw [← e1];exact hS)
   ·by_cases e2:b=m+1
    ·exact yJ w g n cap a m b e2 f hR hB ham e1 hb hn hL
    ·exact zQ N ih w g n cap a m b f h1 hR hB (by omega) (by omega) hb hn hL hS
theorem BL {A M C:Int}(a m b:Nat) (eA:A=a) (eM:M=m) (eC:C=b) (w:World) (g n cap:Nat) (f:Nat→Ch) (hR:aG w g n cap f) (hB:Bd f n) (ham:a < m) (hmb:m < b) (hb:b≤n) (hn:n≤1000000000) (hL:bU f a m) (hS:bU f m b) :
 Calls Tryz.prog 207 #[.slice (some ⟨g,0,none⟩) n cap,.int .i64 A,.int .i64 M,.int .i64 C,.func (.func 178) #[] #[]] w fun e w'=>e=.returned (.tuple #[]) ∧
  ∃ h,aG w' g n cap h∧fo f h a b∧aa [g] w w':=by
 subst eA;subst eM;subst eC;exact Bp (b - a) w g n cap a m b f (Nat.le_refl _) hR hB ham hmb hb hn hL hS
def kw (h:Nat→Ch) (s x n:Nat):Prop:=∀ j,x≤j*s→bU h (j*s) (min ((j+1)*s) n)
def mB (h:Nat→Ch) (s x:Nat):Prop:=∀ i,(i+1)*s≤x→bU h (i*s) ((i+1)*s)
theorem bU.same {f h:Nat→Ch}{a b:Nat}(H:bU f a b) (e:∀ k,a≤k→k < b→h k=f k):bU h a b:=fun p q h1 h2 h3=>by
 rw [e p h1 (by omega),e q (by omega) h3];exact H p q h1 h2 h3
theorem bU.less {f:Nat→Ch}{a b c d:Nat}(H:bU f a b) (h1:a≤c) (h2:d≤b):bU f c d:=fun p q p1 p2 p3=>H p q (by omega) p2 (by omega)
theorem oB (h:Nat→Ch) {s:Nat}(hs:0 < s):mB h s 0:=fun i hi=>by
 rw [Nat.succ_mul] at hi;omega
theorem pw {f h:Nat→Ch}{s k a b:Nat}(hs:0 < s) (D:mB f s a) (ha:a=k*s) (hb:b=a+s) (A:aO f h a b) (R:bU h a b):mB h s b:=by
 intro i hi;by_cases c:(i+1)*s≤a
 ·exact (D i c).same fun x _ h2=>A.same x (by omega)
 ·have e1:b=(k+1)*s:=by rw [Nat.succ_mul,hb,ha]
  rw [e1] at hi;have h1:=Nat.le_of_mul_le_mul_right hi hs
  have h2:k < i+1:=by
   rw [ha] at c;exact Nat.lt_of_mul_lt_mul_right (Nat.lt_of_not_le c)
  obtain rfl:i=k:=by omega
  rw [← e1,← ha];exact R
theorem xC {f h:Nat→Ch}{s a b n:Nat}(L:kw f s a n) (hab:a≤b) (A:aO f h a b):kw h s b n:=fun j hj =>
 (L j (by omega)).same fun x h1 _=>A.same x (by omega)
theorem mA {f h:Nat→Ch}{s k a n:Nat}(D:mB f s a) (ha:a=k*s) (hn:n < a+s) (A:aO f h a n) (R:bU h a n):kw h s 0 n:=by
 intro i _;have e1:(k+1)*s=a+s:=by rw [Nat.succ_mul,ha]
 rcases Nat.lt_trichotomy i k with c | c | c
 ·have h1:(i+1)*s≤a:=by rw [ha];exact Nat.mul_le_mul_right _ c
  exact ((D i h1).less (Nat.le_refl _) (Nat.min_le_left _ _)).same fun x _ h2=>A.same x (by omega)
 ·subst c;rw [← ha];exact R.less (Nat.le_refl _) (Nat.min_le_right _ _)
 ·have h1:(k+1)*s≤i*s:=Nat.mul_le_mul_right _ c;intro p q h2 h3 h4;omega
theorem zS {h:Nat→Ch}{s n:Nat}(L:kw h s 0 n) (hs:n≤s):bU h 0 n:=by
 have:=L 0 (by omega)
 rw [Nat.zero_mul,Nat.one_mul,Nat.min_eq_right hs] at this;exact this
theorem mD {h:Nat→Ch}{s k a n:Nat}(L:kw h s a n) (ha:a=k*(2*s)):bU h a (min (a+s) n):=by
 have e:2*k*s=a:=by rw [ha,Nat.mul_comm 2 k,Nat.mul_assoc]
 have h1:=L (2*k) (by omega);rw [Nat.add_mul,Nat.one_mul,e] at h1;exact h1
theorem qO {h:Nat→Ch}{s k a n:Nat}(L:kw h s a n) (ha:a=k*(2*s)):bU h (a+s) (min (a+s+s) n):=by
 have e:(2*k+1)*s=a+s:=by rw [Nat.add_mul,Nat.one_mul,ha,Nat.mul_comm 2 k,Nat.mul_assoc]
 have h1:=L (2*k+1) (by omega);rw [Nat.add_mul (2*k+1),Nat.one_mul,e] at h1;exact h1
def Dh (w:World) (g n cap:Nat) (f:Nat→Ch) (av bv:Value) (wr:World):Prop :=
 ∃ (k a b:Nat) (h:Nat→Ch),av=.int .i64 a∧bv=.int .i64 b∧(a=k*20∧b=a+20∧a≤n)∧mB h 20 a∧aG wr g n cap h∧aO f h 0 n∧aa [g] w wr
def Do (w:World) (g n cap:Nat) (f:Nat→Ch) (sv:Value) (wr:World):Prop :=
 ∃ (s:Nat) (h:Nat→Ch),sv=.int .i64 s∧(20≤s∧s≤2000000000)∧kw h s 0 n∧aG wr g n cap h∧aO f h 0 n∧aa [g] w wr
def C4 (w:World) (g n cap s:Nat) (f:Nat→Ch) (av bv:Value) (wr:World):Prop :=
 ∃ (k a b:Nat) (h:Nat→Ch),av=.int .i64 a∧bv=.int .i64 b∧(a=k*(2*s)∧b=a+2*s∧a≤n)∧mB h (2*s) a∧kw h s a n∧aG wr g n cap h∧aO f h 0 n∧aa [g] w wr
theorem rj (w:World) (g n cap:Nat) (f:Nat→Ch) (hR:aG w g n cap f) (hB:Bd f n) (hn:n≤1000000000) :
 Calls Tryz.prog 198 #[.slice (some ⟨g,0,none⟩) n cap,.int .i64 n,.func (.func 178) #[] #[]] w fun e w'=>e=.returned (.tuple #[]) ∧
  ∃ h,aG w' g n cap h∧bU h 0 n∧aO f h 0 n∧aa [g] w w':=by
 have HR:Hid (aG w g n cap f):=hR;clear hR;go_enter Tryz.func198,Tryz.ntmps198;go_wp2_with fail
 go_loopw [7,8] (fun av bv wr=>Dh w g n cap f av bv wr) (fun av _ _=>n+1 - (intOf av).toNat)
 case atStart=>exact ⟨0,0,20,f,rfl,rfl,⟨rfl,rfl,Nat.zero_le _⟩,oB f (by omega),HR.out,aO.refl _ _ _,aa.refl _ _⟩
 case round =>
  obtain ⟨k,a,b,h,rfl,rfl,⟨ha,hb,han⟩,hD',hT',hA',hK'⟩:=hrel;have HAK:Hid (a=k*20):=ha;have HAB:Hid (b=a+20):=hb;have HD:Hid (mB h 20 a):=hD';have HT:Hid (aG wr g n cap h):=hT';have HA:Hid (aO f h 0 n):=hA';have HK:Hid (aa [g] w wr):=hK';clear hD' hT' hA' hK' ha hb;by_cases hlt:b≤n
  ·have hlt':(b:Int)≤n:=by omega
   (go_wp2_with fail);refine (sq _ g n cap a b h HT.out (hB.alike HA.out (Nat.le_refl _)) (by have:=HAB.out;omega) hlt hn).mono ?_;rintro e w1 ⟨rfl,h1,hT1,hS1,hA1,hK1⟩;have HT1:Hid (aG w1 g n cap h1):=hT1;have HK1:Hid (aa [g] w w1):=HK.out.trans hK1 (by simp);have HA1:Hid (aO f h1 0 n):=HA.out.trans (hA1.wide (Nat.zero_le _) (by have:=HAB.out;omega) hlt);have HD1:Hid (mB h1 20 b):=pw (by omega) HD.out HAK.out HAB.out hA1 hS1;clear hT1 hS1 hA1 hK1;(go_wp2_with fail);go_roundw
   case rel=>exact ⟨k+1,b,b+20,h1,rfl,by go_num,⟨by have h1:=HAB.out;have h2:=HAK.out;omega,rfl,hlt⟩,HD1.out,HT1.out,HA1.out,HK1.out⟩
   case measure=>simp [intOf];have:=HAB.out;omega
  ·have hlt':¬ (b:Int)≤n:=by omega
   (go_wp2_with fail);refine (sq _ g n cap a n h HT.out (hB.alike HA.out (Nat.le_refl _)) han (Nat.le_refl _) hn).mono ?_;rintro e w1 ⟨rfl,h1,hT1,hS1,hA1,hK1⟩;have HT1:Hid (aG w1 g n cap h1):=hT1;have HK1:Hid (aa [g] w w1):=HK.out.trans hK1 (by simp);have HA1:Hid (aO f h1 0 n):=HA.out.trans (hA1.wide (Nat.zero_le _) han (Nat.le_refl _));have HL1:Hid (kw h1 20 0 n):=mA HD.out HAK.out (by have:=HAB.out;omega) hA1 hS1;clear hT1 hS1 hA1 hK1;(go_wp2_with fail);go_loopw [6] (fun sv wr=>Do w g n cap f sv wr) (fun sv _=>n - (intOf sv).toNat)
   case atStart=>exact ⟨20,h1,rfl,⟨Nat.le_refl _,by omega⟩,HL1.out,HT1.out,HA1.out,HK1.out⟩
   case round =>
    obtain ⟨s,h,rfl,⟨hs1,hs2⟩,hL',hT',hA',hK'⟩:=hrel;have HL2:Hid (kw h s 0 n):=hL';have HT2:Hid (aG wr g n cap h):=hT';have HA2:Hid (aO f h 0 n):=hA';have HK2:Hid (aa [g] w wr):=hK';clear hL' hT' hA' hK' HT1 HK1 HA1 HL1 HT HA HK HD HAK HAB;by_cases hsn:s < n
    ·have hsn':(s:Int) < n:=by omega
     (go_wp2_with fail);go_loopw [7,8] (fun av bv wr=>C4 w g n cap s f av bv wr) (fun av _ _=>n+1 - (intOf av).toNat)
     case atStart=>exact ⟨0,0,2*s,h,rfl,by go_num,⟨by simp,by simp,Nat.zero_le _⟩,oB h (by omega),HL2.out,HT2.out,HA2.out,HK2.out⟩
     case round =>
      obtain ⟨k,a,b,h,rfl,rfl,⟨ha,hb,han⟩,hD',hL',hT',hA',hK'⟩:=hrel;have HAK:Hid (a=k*(2*s)):=ha;have HAB:Hid (b=a+2*s):=hb;have HD:Hid (mB h (2*s) a):=hD';have HL:Hid (kw h s a n):=hL';have HT:Hid (aG wr g n cap h):=hT';have HA:Hid (aO f h 0 n):=hA';have HK:Hid (aa [g] w wr):=hK';clear hD' hL' hT' hA' hK' ha HT2 HA2 HK2 HL2;by_cases hlt:b≤n
      ·have hlt':(b:Int)≤n:=by omega
       have hR1:bU h a (a+s):=by
        have h1:=mD HL.out HAK.out;rw [Nat.min_eq_left (by omega)] at h1;exact h1
       have hR2:bU h (a+s) b:=by
        have h1:=qO HL.out HAK.out;rw [Nat.min_eq_left (by omega)] at h1;rw [show b=a+s+s by omega];exact h1
       have cS:=fun w' (hT:aG w' g n cap h)=>BL (A:=a) (M:=(a:Int)+s) (C:=b) a (a+s) b rfl (by omega) rfl w' g n cap h hT (hB.alike HA.out (Nat.le_refl _)) (by omega) (by omega) hlt hn hR1 hR2;have hbs:b≤5000000000:=by omega
       clear hb hR1 hR2;(go_wp2_with fail);refine (cS _ HT.out).mono ?_;rintro e w1 ⟨rfl,h1,hT1,hM1,hK1⟩;have hle:a≤b:=by have:=HAB.out;omega
       have HT1:Hid (aG w1 g n cap h1):=hT1;have HK1:Hid (aa [g] w w1):=HK.out.trans hK1 (by simp);have HA1:Hid (aO f h1 0 n):=HA.out.trans (hM1.alike.wide (Nat.zero_le _) hle hlt);have HD1:Hid (mB h1 (2*s) b):=pw (by omega) HD.out HAK.out HAB.out hM1.alike hM1.rise;have HL1:Hid (kw h1 s b n):=xC HL.out hle hM1.alike;clear hT1 hM1 hK1 cS hle;(go_wp2_with fail);go_roundw
       case rel=>exact ⟨k+1,b,b+2*s,h1,rfl,by go_num,⟨by rw [HAB.out,HAK.out,Nat.add_mul,Nat.one_mul],rfl,hlt⟩,HD1.out,HL1.out,HT1.out,HA1.out,HK1.out⟩
       case measure=>simp [intOf];have:=HAB.out;omega
      ·have hlt':¬ (b:Int)≤n:=by omega
       by_cases hm:a+s < n
       ·have hm':(a:Int)+s < n:=by omega
        have hR1:bU h a (a+s):=by
         have h1:=mD HL.out HAK.out;rw [Nat.min_eq_left (by omega)] at h1;exact h1
        have hR2:bU h (a+s) n:=by
         have h1:=qO HL.out HAK.out;rw [Nat.min_eq_right (by omega)] at h1;exact h1
        have cS:=fun w' (hT:aG w' g n cap h)=>BL (A:=a) (M:=(a:Int)+s) (C:=n) a (a+s) n rfl (by omega) rfl w' g n cap h hT (hB.alike HA.out (Nat.le_refl _)) (by omega) hm (Nat.le_refl _) hn hR1 hR2;clear hb hR1 hR2;(go_wp2_with fail);refine (cS _ HT.out).mono ?_;rintro e w1 ⟨rfl,h1,hT1,hM1,hK1⟩;have HT1:Hid (aG w1 g n cap h1):=hT1;have HK1:Hid (aa [g] w w1):=HK.out.trans hK1 (by simp);have HA1:Hid (aO f h1 0 n):=HA.out.trans (hM1.alike.wide (Nat.zero_le _) han (Nat.le_refl _));have HL1:Hid (kw h1 (2*s) 0 n):=mA HD.out HAK.out (by have:=HAB.out;omega) hM1.alike hM1.rise;clear hT1 hM1 hK1 cS;(go_wp2_with fail);go_roundw
        case rel=>exact ⟨2*s,h1,by go_num,⟨by omega,by omega⟩,HL1.out,HT1.out,HA1.out,HK1.out⟩
        case measure=>simp [intOf];omega
       ·have hm':¬ (a:Int)+s < n:=by omega
        have hR1:bU h a n:=by
         have h1:=mD HL.out HAK.out;rw [Nat.min_eq_right (by omega)] at h1;exact h1
        have HL1:Hid (kw h (2*s) 0 n):=mA HD.out HAK.out (by omega) (aO.refl _ _ _) hR1;clear hb hR1;(go_wp2_with fail);go_roundw
        case rel=>exact ⟨2*s,h,by go_num,⟨by omega,by omega⟩,HL1.out,HT.out,HA.out,HK.out⟩
        case measure=>simp [intOf];omega
    ·have hsn':¬ (s:Int) < n:=by omega
     (go_wp2_with fail);go_returns
     exact ⟨rfl,h,HT2.out,zS HL2.out (by omega),HA2.out,HK2.out⟩
theorem lN (w:World) (g n cap:Nat) (f:Nat→Ch) (hR:aG w g n cap f) (hB:Bd f n) (hn:n≤1000000000) :
 Calls Tryz.prog 187 #[.slice (some ⟨g,0,none⟩) n cap,.func (.func 178) #[] #[]] w fun e w'=>e=.returned (.tuple #[]) ∧
  ∃ h,aG w' g n cap h∧bU h 0 n∧aO f h 0 n∧aa [g] w w':=by
 have hS:=rj w g n cap f hR hB hn;have hcap:=hR.le;have hmax:=hR.max;unfold maxLen at hmax;clear hR hB;go_enter Tryz.func187,Tryz.ntmps187;go_wp2_with fail
 refine hS.mono ?_;rintro e w1 ⟨rfl,h1,hT1,hS1,hA1,hK1⟩;have HT1:Hid (aG w1 g n cap h1):=hT1;clear hT1;go_wp2_with fail
 go_returns
 exact ⟨rfl,h1,HT1.out,hS1,hA1,hK1⟩
end Go.Proofs.YtgpnlidnbldiiaaGreat
