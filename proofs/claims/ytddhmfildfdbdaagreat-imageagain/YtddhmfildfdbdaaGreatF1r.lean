/-
  Texts of this claim that are laid as one: EnPure, Pure, Bits, CrcP, HiP.
-/
import Derived.Test.YtddhmfildfdbdaaGreatQ1r
import Derived.WalkKit
/-
 What goes through the fields of requests and verdicts: plainly,for whatever writes or reads them.
-/
namespace Go.Proofs.YtddhmfildfdbdaaGreat
structure PH (σ:Type) where
 num:σ→Int→Int × σ
 upTo:σ→Int→Int→Int × σ
 text:σ→List UInt8→List UInt8 × σ
 flag:σ→Bool→Bool × σ
 word:σ→Int→Int × σ
def ch0:Ch:=⟨[],false,0⟩
def com0:Com:=⟨0,0,[],[]⟩
variable {σ : Type}
def chgP (P:PH σ) (s:σ) (x:Ch):Ch × σ :=
 if (P.flag (P.text s x.p).2 x.g).1=true then (⟨(P.text s x.p).1,true,0⟩,(P.flag (P.text s x.p).2 x.g).2)
 else (⟨(P.text s x.p).1,false,(P.word (P.flag (P.text s x.p).2 x.g).2 x.d).1⟩,(P.word (P.flag (P.text s x.p).2 x.g).2 x.d).2)
def mapP {α:Type}(one:σ→α→α × σ):σ→List α→List α × σ
 | s,[]=>([],s)
 | s,x :: L=>((one s x).1 :: (mapP one (one s x).2 L).1,(mapP one (one s x).2 L).2)
theorem mapP_snoc {α:Type}(one:σ→α→α × σ) (s:σ) (L:List α) (x:α) :
 mapP one s (L++[x])=((mapP one s L).1++[(one (mapP one s L).2 x).1],(one (mapP one s L).2 x).2):=by
 induction L generalizing s with
 | nil=>rfl
 | cons y L ih=>simp only [List.cons_append,mapP,ih]
theorem mapP_length {α:Type}(one:σ→α→α × σ) (s:σ) (L:List α):(mapP one s L).1.length=L.length:=by
 induction L generalizing s with
 | nil=>rfl
 | cons y L ih=>simp [mapP,ih]
def padL {α:Type}(L:List α) (z:α) (n:Nat):List α:=L.take n++List.replicate (n - L.length) z
theorem padL_length {α:Type}(L:List α) (z:α) (n:Nat):(padL L z n).length=n:=by simp [padL];omega
theorem padL_nil {α:Type}(z:α) (n:Nat):padL [] z n=List.replicate n z:=by simp [padL]
def listP {α:Type}(P:PH σ) (one:σ→α→α × σ) (z:α) (s:σ) (L:List α) (most:Int):List α × σ :=
 mapP one (P.upTo s L.length most).2 (padL L z (P.upTo s L.length most).1.toNat)
def comP1 (P:PH σ) (s:σ) (x:Com):σ:=(P.text (P.num (P.num s x.r).2 x.b).2 x.n).2
def comP (P:PH σ) (s:σ) (x:Com):Com × σ :=
 (⟨(P.num s x.r).1,(P.num (P.num s x.r).2 x.b).1,(P.text (P.num (P.num s x.r).2 x.b).2 x.n).1,(listP P (chgP P) ch0 (comP1 P s x) x.c 64).1⟩,(listP P (chgP P) ch0 (comP1 P s x) x.c 64).2)
def verK (P:PH σ) (s:σ) (v:Vt):Int:=(P.upTo s v.c 14).1
def verT (P:PH σ) (s:σ) (v:Vt):σ:=(P.upTo s v.c 14).2
def verP (P:PH σ) (s:σ) (v:Vt):Vt × σ :=
 if verK P s v=1 then (⟨verK P s v,(P.num (verT P s v) v.s).1,0,[],0,[],0⟩,(P.num (verT P s v) v.s).2)
 else if verK P s v=2∨verK P s v=4∨verK P s v=8 then (⟨verK P s v,0,(P.num (verT P s v) v.r).1,[],0,[],0⟩,(P.num (verT P s v) v.r).2)
 else if verK P s v=3 then (⟨verK P s v,0,(P.num (P.text (verT P s v) v.p).2 v.r).1,(P.text (verT P s v) v.p).1,0,[],0⟩,(P.num (P.text (verT P s v) v.p).2 v.r).2)
 else if verK P s v=9 then (⟨verK P s v,0,(P.num (P.word (P.text (verT P s v) v.p).2 v.d).2 v.r).1,(P.text (verT P s v) v.p).1,(P.word (P.text (verT P s v) v.p).2 v.d).1,[],0⟩,(P.num (P.word (P.text (verT P s v) v.p).2 v.d).2 v.r).2)
 else if verK P s v=10 then (⟨verK P s v,0,0,(P.text (verT P s v) v.p).1,0,[],0⟩,(P.text (verT P s v) v.p).2)
 else if verK P s v=11 then (⟨verK P s v,0,0,[],0,(listP P (comP P) com0 (verT P s v) v.k 32).1,0⟩,(listP P (comP P) com0 (verT P s v) v.k 32).2)
 else if verK P s v=12∨verK P s v=13∨verK P s v=14 then (⟨verK P s v,0,0,[],0,[],(P.num (verT P s v) v.m).1⟩,(P.num (verT P s v) v.m).2)
 else (⟨verK P s v,0,0,[],0,[],0⟩,verT P s v)
end Go.Proofs.YtddhmfildfdbdaaGreat
namespace Go.Proofs.YtddhmfildfdbdaaGreat
def rdN:Nat→Nat→Int→List Int→Int × Int × List Int
 | 0,_,_,_=>(4,0,[])
 | _+1,_,_,[]=>(2,0,[])
 | f+1,i,acc,d :: l =>
   if 128≤d then rdN f (i+1) (acc+d % 128*2 ^ (7*i)) l
   else if (d=0∧0 < i)∨1099511627776 < acc+d % 128*2 ^ (7*i) then (4,0,[])
   else (0,acc+d % 128*2 ^ (7*i),l)
def rdNum (l:List Int):Int × Int × List Int:=rdN 6 0 0 l
def Oct (l:List Int):Prop:=∀ x∈l,0≤x∧x < 256
theorem Oct.tail {d:Int}{l:List Int}(h:Oct (d :: l)):Oct l:=fun x hx=>h x (List.mem_cons_of_mem _ hx)
theorem Oct.head {d:Int}{l:List Int}(h:Oct (d :: l)):0≤d∧d < 256:=h d (List.mem_cons_self ..)
theorem Oct.drop {l:List Int}(h:Oct l) (k:Nat):Oct (l.drop k):=fun x hx=>h x (List.mem_of_mem_drop hx)
theorem Oct.take {l:List Int}(h:Oct l) (k:Nat):Oct (l.take k):=fun x hx=>h x (List.mem_of_mem_take hx)
def enc:Nat→Int→List Int
 | 0,n=>[n]
 | f+1,n=>if 128≤n then (n % 128+128) :: enc f (n / 128) else [n]
def encNum (n:Int):List Int:=enc 5 n
theorem enc_small (f:Nat) (n:Int) (h:n < 128):enc f n=[n]:=by
 cases f with
 | zero=>rfl
 | succ f=>rw [enc,if_neg (by omega)]
theorem enc_great (f:Nat) (n:Int) (h:128≤n):enc (f+1) n=(n % 128+128) :: enc f (n / 128):=by
 rw [enc,if_pos h]
theorem enc_length (f:Nat) (n:Int):(enc f n).length≤f+1:=by
 induction f generalizing n with
 | zero=>simp [enc]
 | succ f ih =>
   rw [enc]
   split
   ·have:=ih (n / 128);simp;omega
   ·simp
theorem enc_oct (f:Nat) (n:Int) (h0:0≤n) (h1:n < 128 ^ (f+1)):Oct (enc f n):=by
 induction f generalizing n with
 | zero=>intro x hx;simp [enc] at hx;subst hx;simp at h1;omega
 | succ f ih =>
   rw [enc]
   split
   ·intro x hx
    rcases List.mem_cons.1 hx with rfl | hx
    ·omega
    ·refine ih (n / 128) (by omega) ?_ x hx
     rw [Int.pow_succ] at h1
     exact Int.ediv_lt_of_lt_mul (by decide) h1
   ·intro x hx;simp at hx;subst hx;omega
theorem rdN_enc (f i:Nat) (acc n:Int) (l:List Int) (h0:0≤n) (h1:n < 128 ^ (f+1)) (ha:0≤acc) (hM:acc+n*2 ^ (7*i)≤1099511627776) (hz:n=0→i=0) :
 rdN (f+1) i acc (enc f n++l)=(0,acc+n*2 ^ (7*i),l):=by
 induction f generalizing i acc n with
 | zero =>
   simp at h1
   have e:n % 128=n:=by omega
   rw [enc]
   show rdN (0+1) i acc (n :: l)=_
   rw [rdN,if_neg (by omega),e,if_neg (by omega)]
 | succ f ih =>
   by_cases h:128≤n
   ·rw [enc_great _ _ h]
    show rdN (f+1+1) i acc ((n % 128+128) :: (enc f (n / 128)++l))=_
    rw [rdN,if_pos (by omega)]
    have e:(n % 128+128) % 128=n % 128:=by omega
    have e2:(2:Int) ^ (7*(i+1))=128*2 ^ (7*i):=by rw [show 7*(i+1)=7+7*i by omega,Int.pow_add];rfl
    have hp:(0:Int) < 2 ^ (7*i):=Int.pow_pos (by decide)
    have e3:acc+n % 128*2 ^ (7*i)+n / 128*2 ^ (7*(i+1))=acc+n*2 ^ (7*i):=by
     rw [e2]
     have h4:n=n / 128*128+n % 128:=by omega
     generalize (2:Int) ^ (7*i)=P
     have h5:n*P=(n / 128*128+n % 128)*P:=by rw [← h4]
     rw [h5,Int.add_mul,Int.mul_assoc];omega
    rw [e,ih (i+1) (acc+n % 128*2 ^ (7*i)) (n / 128) (by omega) ?_ ?_ (by rw [e3];exact hM) (by omega),e3]
    ·rw [Int.pow_succ] at h1
     exact Int.ediv_lt_of_lt_mul (by decide) h1
    ·have:0≤n % 128*2 ^ (7*i):=Int.mul_nonneg (by omega) (by omega)
     omega
   ·rw [enc_small _ _ (by omega)]
    have e:n % 128=n:=by omega
    show rdN (f+1+1) i acc (n :: l)=_
    rw [rdN,if_neg (by omega),e,if_neg (by omega)]
theorem rdNum_enc (n:Int) (l:List Int) (h0:0≤n) (h1:n≤1099511627776):rdNum (encNum n++l)=(0,n,l):=by
 have:=rdN_enc 5 0 0 n l h0 (by omega) (by omega) (by omega) (by omega)
 simpa [rdNum,encNum] using this
theorem digit_lt (acc d:Int) (k:Nat) (h0:0≤acc) (h1:acc < 2 ^ (7*k)):0≤acc+d % 128*2 ^ (7*k)∧acc+d % 128*2 ^ (7*k) < 2 ^ (7*(k+1)):=by
 have hp:(0:Int) < 2 ^ (7*k):=Int.pow_pos (by decide)
 have e:(2:Int) ^ (7*(k+1))=2 ^ (7*k)*128:=by rw [show 7*(k+1)=7*k+7 by omega,Int.pow_add];rfl
 rw [e]
 generalize (2:Int) ^ (7*k)=P at *
 have h2:0≤d % 128:=by omega
 have h3:d % 128≤127:=by omega
 generalize d % 128=m at *
 have h4:0≤m*P:=Int.mul_nonneg h2 (by omega)
 have h5:m*P≤127*P:=Int.mul_le_mul_of_nonneg_right h3 (by omega)
 omega
theorem rdN_one (f i:Nat) (acc x:Int) (l rest:List Int) (ho:Oct l) (h:rdN f i acc l=(0,x,rest)) (ha:0≤acc) (hM:acc < 2 ^ (7*i)) :
 ∃ m,0≤m∧x=acc+m*2 ^ (7*i)∧(0 < i→m≠0)∧∃ g,g+1=f∧l=enc g m++rest:=by
 induction f generalizing i acc l with
 | zero=>simp [rdN] at h
 | succ f ih =>
   cases l with
   | nil=>simp [rdN] at h
   | cons d l =>
     have hd:=ho.head
     rw [rdN] at h
     split at h
     ·obtain ⟨m,hm0,hmx,hmz,g,hg,hl⟩:=ih (i+1) _ l ho.tail h (digit_lt acc d i ha hM).1 (digit_lt acc d i ha hM).2
      refine ⟨m*128+d % 128,by omega,?_,?_,g+1,by omega,?_⟩
      ·have e2:(2:Int) ^ (7*(i+1))=128*2 ^ (7*i):=by rw [show 7*(i+1)=7+7*i by omega,Int.pow_add];rfl
       rw [hmx,e2]
       generalize (2:Int) ^ (7*i)=P
       rw [Int.add_mul,Int.mul_assoc];omega
      ·intro _;have:=hmz (by omega);omega
      ·have hm1:m≠0:=hmz (by omega)
       rw [enc_great g _ (by omega),hl]
       have e1:(m*128+d % 128) / 128=m:=by omega
       have e3:(m*128+d % 128) % 128+128=d:=by omega
       rw [e1,e3];rfl
     ·split at h
      ·simp at h
      ·rename_i h1 h2
       simp at h
       refine ⟨d,by omega,?_,?_,f,rfl,?_⟩
       ·rw [← h.1];congr 2;omega
       ·intro hi hz;exact h2 (.inl ⟨hz,hi⟩)
       ·rw [enc_small _ _ (by omega),h.2];rfl
theorem rdNum_one (x:Int) (l rest:List Int) (ho:Oct l) (h:rdNum l=(0,x,rest)):0≤x∧x≤1099511627776∧l=encNum x++rest:=by
 obtain ⟨m,h1,h2,_,g,hg,h3⟩:=rdN_one 6 0 0 x l rest ho h (by omega) (by decide)
 simp at h2
 obtain rfl:g=5:=by omega
 subst h2
 refine ⟨h1,?_,h3⟩
 have:∀ f i acc l,rdN f i acc l=(0,x,rest)→x≤1099511627776:=by
  intro f
  induction f with
  | zero=>intro i acc l h;simp [rdN] at h
  | succ f ih =>
    intro i acc l h
    cases l with
    | nil=>simp [rdN] at h
    | cons d l =>
      rw [rdN] at h
      split at h
      ·exact ih _ _ _ h
      ·split at h
       ·simp at h
       ·simp at h;omega
 exact this 6 0 0 l h
open Go.RowKit
theorem wrapsI64 (n:Int) (h₀:0≤n) (h₁:n < 2 ^ 63):IntKind.i64.wrap n=n:=by rw [IntKind.wrap_i64];omega
theorem u8_and127 {x:Int}(h₀:0≤x) (h₁:x < 256):bits .and .u8 x 127=x % 128:=bits_mask .u8 8 (by decide) wraps_u8 7 (by decide) x h₀ h₁
theorem u8_or128r {x:Int}(h₀:0≤x) (h₁:x < 256):bits .or .u8 x 128=x % 128+128:=by
 have h:=(bits_nat .u8 8 (by decide) wraps_u8 x.toNat 128 (by omega) (by decide)).2
 have e:((x.toNat:Nat):Int)=x:=by omega
 rw [e] at h
 have h2:x.toNat ||| 128=x.toNat % 128+128:=by
  have h3:∀ y:Fin 256,y.val ||| 128=y.val % 128+128:=by decide +kernel
  exact h3 ⟨x.toNat,by omega⟩
 rw [h2] at h
 have:((128:Nat):Int)=128:=rfl
 rw [this] at h
 rw [h];omega
theorem or_nat (a b i:Nat) (hb:b % 2 ^ i=0) (ha:a < 2 ^ i) (hb2:b < 2 ^ 63) (ha2:a < 2 ^ 63):bits .or .i64 (a:Int) (b:Int)=(a:Int)+b:=by
 have h:=(bits_nat .i64 63 (by decide) wrapsI64 a b ha2 hb2).2
 rw [h,Nat.or_comm,nat_join i b a hb ha];omega
theorem or_digit (acc d:Int) (k:Nat) (h0:0≤acc) (h1:acc < 2 ^ (7*k)) (hd:0≤d) (hd2:d < 256) (hk:k < 6) :
 bits .or .i64 acc (wrap64 (wrap64 (bits .and .u8 d 127)*2 ^ (7*k)))=acc+d % 128*2 ^ (7*k):=by
 rw [u8_and127 hd hd2]
 obtain ⟨a,rfl⟩:=Int.eq_ofNat_of_zero_le h0
 obtain ⟨y,rfl⟩:=Int.eq_ofNat_of_zero_le hd
 obtain rfl | rfl | rfl | rfl | rfl | rfl:k=0∨k=1∨k=2∨k=3∨k=4∨k=5:=by omega
 ·have e:wrap64 (wrap64 ((y:Int) % 128)*2 ^ (7*0))=((y % 128*2 ^ 0:Nat):Int):=by unfold wrap64;omega
  rw [e,or_nat a _ 0 (by omega) (by omega) (by omega) (by omega)];omega
 ·have e:wrap64 (wrap64 ((y:Int) % 128)*2 ^ (7*1))=((y % 128*2 ^ 7:Nat):Int):=by unfold wrap64;omega
  rw [e,or_nat a _ 7 (by omega) (by omega) (by omega) (by omega)];omega
 ·have e:wrap64 (wrap64 ((y:Int) % 128)*2 ^ (7*2))=((y % 128*2 ^ 14:Nat):Int):=by unfold wrap64;omega
  rw [e,or_nat a _ 14 (by omega) (by omega) (by omega) (by omega)];omega
 ·have e:wrap64 (wrap64 ((y:Int) % 128)*2 ^ (7*3))=((y % 128*2 ^ 21:Nat):Int):=by unfold wrap64;omega
  rw [e,or_nat a _ 21 (by omega) (by omega) (by omega) (by omega)];omega
 ·have e:wrap64 (wrap64 ((y:Int) % 128)*2 ^ (7*4))=((y % 128*2 ^ 28:Nat):Int):=by unfold wrap64;omega
  rw [e,or_nat a _ 28 (by omega) (by omega) (by omega) (by omega)];omega
 ·have e:wrap64 (wrap64 ((y:Int) % 128)*2 ^ (7*5))=((y % 128*2 ^ 35:Nat):Int):=by unfold wrap64;omega
  rw [e,or_nat a _ 35 (by omega) (by omega) (by omega) (by omega)];omega
theorem ret_int {k:IntKind}{a b:Int}(h:a=b):Ending.returned (.int k a)=.returned (.int k b):=by rw [h]
def hiB (many:Nat) (x:Int):List Int:=(List.range many).map fun i=>x / 2 ^ (8*(many - 1 - i)) % 256
theorem hiB_length (many:Nat) (x:Int):(hiB many x).length=many:=by simp [hiB]
theorem hiB_oct (many:Nat) (x:Int):Oct (hiB many x):=by
 intro y hy
 simp only [hiB,List.mem_map] at hy
 obtain ⟨i,_,rfl⟩:=hy
 omega
theorem hiB_take (many:Nat) (x:Int) (k:Nat) (h:k < many):(hiB many x).take (k+1)=(hiB many x).take k++[x / 2 ^ (8*(many - 1 - k)) % 256]:=by
 rw [List.take_succ_eq_append_getElem (by rw [hiB_length];exact h)]
 simp [hiB]
def rdHi (l:List Int):Int:=l.foldl (fun x d=>(x*256 % 18446744073709551616+d)) 0
theorem rdHi_snoc (l:List Int) (d:Int):rdHi (l++[d])=rdHi l*256 % 18446744073709551616+d:=by
 unfold rdHi;rw [List.foldl_append];rfl
theorem rdHi_bd (l:List Int) (ho:Oct l):0≤rdHi l∧rdHi l < 18446744073709551616:=by
 have:∀ (m:List Int),Oct m→0≤rdHi m.reverse∧rdHi m.reverse < 18446744073709551616:=by
  intro m
  induction m with
  | nil=>intro _;decide
  | cons d m ih =>
    intro h
    have h1:=ih h.tail
    have h2:=h.head
    rw [List.reverse_cons,rdHi_snoc]
    omega
 have h:=this l.reverse (fun x hx=>ho x (by simpa using hx))
 simpa using h
end Go.Proofs.YtddhmfildfdbdaaGreat
