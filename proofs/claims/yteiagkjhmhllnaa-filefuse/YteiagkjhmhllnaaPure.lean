/-
  Numbers as bytes, plainly: what is read, what is written. No program in sight.
-/
import Derived.WalkKit
namespace Go.Proofs.Yteiagkjhmhllnaa
def rdN:Nat→Nat→Int→List Int→Int × Int × List Int
 | 0,_,_,_=>(4,0,[])
 | _+1,_,_,[]=>(2,0,[])
 | f+1,i,acc,d :: l =>
   if 128≤d then rdN f (i+1) (acc+d % 128*2 ^ (7*i)) l
   else if (d=0∧0 < i)∨1099511627776 < acc+d % 128*2 ^ (7*i) then (4,0,[])
   else (0,acc+d % 128*2 ^ (7*i),l)
def rdNum (l:List Int):Int × Int × List Int:=rdN 6 0 0 l
def Oct (l:List Int):Prop:=∀ x∈l,0≤x∧x < 256
theorem Oct.tail {d:Int}{l:List Int}(h:Oct (d :: l)):Oct l:=fun x hx=>h x (List.mem_cons_of_mem _ hx)
theorem Oct.head {d:Int}{l:List Int}(h:Oct (d :: l)):0≤d∧d < 256:=h d (List.mem_cons_self ..)
theorem Oct.drop {l:List Int}(h:Oct l) (k:Nat):Oct (l.drop k):=fun x hx=>h x (List.mem_of_mem_drop hx)
theorem Oct.take {l:List Int}(h:Oct l) (k:Nat):Oct (l.take k):=fun x hx=>h x (List.mem_of_mem_take hx)
def enc:Nat→Int→List Int
 | 0,n=>[n]
 | f+1,n=>if 128≤n then (n % 128+128) :: enc f (n / 128) else [n]
def encNum (n:Int):List Int:=enc 5 n
theorem enc_small (f:Nat) (n:Int) (h:n < 128):enc f n=[n]:=by
 cases f with
 | zero=>rfl
 | succ f=>rw [enc,if_neg (by omega)]
theorem enc_great (f:Nat) (n:Int) (h:128≤n):enc (f+1) n=(n % 128+128) :: enc f (n / 128):=by
 rw [enc,if_pos h]
theorem enc_length (f:Nat) (n:Int):(enc f n).length≤f+1:=by
 induction f generalizing n with
 | zero=>simp [enc]
 | succ f ih =>
   rw [enc]
   split
   ·have:=ih (n / 128);simp;omega
   ·simp
theorem enc_oct (f:Nat) (n:Int) (h0:0≤n) (h1:n < 128 ^ (f+1)):Oct (enc f n):=by
 induction f generalizing n with
 | zero=>intro x hx;simp [enc] at hx;subst hx;simp at h1;omega
 | succ f ih =>
   rw [enc]
   split
   ·intro x hx
    rcases List.mem_cons.1 hx with rfl | hx
    ·omega
    ·refine ih (n / 128) (by omega) ?_ x hx
     rw [Int.pow_succ] at h1
     exact Int.ediv_lt_of_lt_mul (by decide) h1
   ·intro x hx;simp at hx;subst hx;omega
theorem rdN_enc (f i:Nat) (acc n:Int) (l:List Int) (h0:0≤n) (h1:n < 128 ^ (f+1)) (ha:0≤acc) (hM:acc+n*2 ^ (7*i)≤1099511627776) (hz:n=0→i=0) :
 rdN (f+1) i acc (enc f n++l)=(0,acc+n*2 ^ (7*i),l):=by
 induction f generalizing i acc n with
 | zero =>
   simp at h1
   have e:n % 128=n:=by omega
   rw [enc]
   show rdN (0+1) i acc (n :: l)=_
   rw [rdN,if_neg (by omega),e,if_neg (by omega)]
 | succ f ih =>
   by_cases h:128≤n
   ·rw [enc_great _ _ h]
    show rdN (f+1+1) i acc ((n % 128+128) :: (enc f (n / 128)++l))=_
    rw [rdN,if_pos (by omega)]
    have e:(n % 128+128) % 128=n % 128:=by omega
    have e2:(2:Int) ^ (7*(i+1))=128*2 ^ (7*i):=by rw [show 7*(i+1)=7+7*i by omega,Int.pow_add];rfl
    have hp:(0:Int) < 2 ^ (7*i):=Int.pow_pos (by decide)
    have e3:acc+n % 128*2 ^ (7*i)+n / 128*2 ^ (7*(i+1))=acc+n*2 ^ (7*i):=by
     rw [e2]
     have h4:n=n / 128*128+n % 128:=by omega
     generalize (2:Int) ^ (7*i)=P
     have h5:n*P=(n / 128*128+n % 128)*P:=by rw [← h4]
     rw [h5,Int.add_mul,Int.mul_assoc];omega
    rw [e,ih (i+1) (acc+n % 128*2 ^ (7*i)) (n / 128) (by omega) ?_ ?_ (by rw [e3];exact hM) (by omega),e3]
    ·rw [Int.pow_succ] at h1
     exact Int.ediv_lt_of_lt_mul (by decide) h1
    ·have:0≤n % 128*2 ^ (7*i):=Int.mul_nonneg (by omega) (by omega)
     omega
   ·rw [enc_small _ _ (by omega)]
    have e:n % 128=n:=by omega
    show rdN (f+1+1) i acc (n :: l)=_
    rw [rdN,if_neg (by omega),e,if_neg (by omega)]
theorem rdNum_enc (n:Int) (l:List Int) (h0:0≤n) (h1:n≤1099511627776):rdNum (encNum n++l)=(0,n,l):=by
 have:=rdN_enc 5 0 0 n l h0 (by omega) (by omega) (by omega) (by omega)
 simpa [rdNum,encNum] using this
theorem digit_lt (acc d:Int) (k:Nat) (h0:0≤acc) (h1:acc < 2 ^ (7*k)):0≤acc+d % 128*2 ^ (7*k)∧acc+d % 128*2 ^ (7*k) < 2 ^ (7*(k+1)):=by
 have hp:(0:Int) < 2 ^ (7*k):=Int.pow_pos (by decide)
 have e:(2:Int) ^ (7*(k+1))=2 ^ (7*k)*128:=by rw [show 7*(k+1)=7*k+7 by omega,Int.pow_add];rfl
 rw [e]
 generalize (2:Int) ^ (7*k)=P at *
 have h2:0≤d % 128:=by omega
 have h3:d % 128≤127:=by omega
 generalize d % 128=m at *
 have h4:0≤m*P:=Int.mul_nonneg h2 (by omega)
 have h5:m*P≤127*P:=Int.mul_le_mul_of_nonneg_right h3 (by omega)
 omega
theorem rdN_one (f i:Nat) (acc x:Int) (l rest:List Int) (ho:Oct l) (h:rdN f i acc l=(0,x,rest)) (ha:0≤acc) (hM:acc < 2 ^ (7*i)) :
 ∃ m,0≤m∧x=acc+m*2 ^ (7*i)∧(0 < i→m≠0)∧∃ g,g+1=f∧l=enc g m++rest:=by
 induction f generalizing i acc l with
 | zero=>simp [rdN] at h
 | succ f ih =>
   cases l with
   | nil=>simp [rdN] at h
   | cons d l =>
     have hd:=ho.head
     rw [rdN] at h
     split at h
     ·obtain ⟨m,hm0,hmx,hmz,g,hg,hl⟩:=ih (i+1) _ l ho.tail h (digit_lt acc d i ha hM).1 (digit_lt acc d i ha hM).2
      refine ⟨m*128+d % 128,by omega,?_,?_,g+1,by omega,?_⟩
      ·have e2:(2:Int) ^ (7*(i+1))=128*2 ^ (7*i):=by rw [show 7*(i+1)=7+7*i by omega,Int.pow_add];rfl
       rw [hmx,e2]
       generalize (2:Int) ^ (7*i)=P
       rw [Int.add_mul,Int.mul_assoc];omega
      ·intro _;have:=hmz (by omega);omega
      ·have hm1:m≠0:=hmz (by omega)
       rw [enc_great g _ (by omega),hl]
       have e1:(m*128+d % 128) / 128=m:=by omega
       have e3:(m*128+d % 128) % 128+128=d:=by omega
       rw [e1,e3];rfl
     ·split at h
      ·simp at h
      ·rename_i h1 h2
       simp at h
       refine ⟨d,by omega,?_,?_,f,rfl,?_⟩
       ·rw [← h.1];congr 2;omega
       ·intro hi hz;exact h2 (.inl ⟨hz,hi⟩)
       ·rw [enc_small _ _ (by omega),h.2];rfl
theorem rdNum_one (x:Int) (l rest:List Int) (ho:Oct l) (h:rdNum l=(0,x,rest)):0≤x∧x≤1099511627776∧l=encNum x++rest:=by
 obtain ⟨m,h1,h2,_,g,hg,h3⟩:=rdN_one 6 0 0 x l rest ho h (by omega) (by decide)
 simp at h2
 obtain rfl:g=5:=by omega
 subst h2
 refine ⟨h1,?_,h3⟩
 have:∀ f i acc l,rdN f i acc l=(0,x,rest)→x≤1099511627776:=by
  intro f
  induction f with
  | zero=>intro i acc l h;simp [rdN] at h
  | succ f ih =>
    intro i acc l h
    cases l with
    | nil=>simp [rdN] at h
    | cons d l =>
      rw [rdN] at h
      split at h
      ·exact ih _ _ _ h
      ·split at h
       ·simp at h
       ·simp at h;omega
 exact this 6 0 0 l h
end Go.Proofs.Yteiagkjhmhllnaa
