/-
  Texts laid as one.
-/
import Derived.WalkKit
import Derived.Laws.AppendOwnNone
import Derived.Lib.Bytealg
import Derived.Lib.Strings
import Derived.Lib.Join
import Derived.Deep.Draws
import Derived.OneCell
import Derived.Laws.IdiomStrings
import Derived.Lib.CutLaws
/-
 append onto a row that is owned: the new row lies where the old one lay,or in a new block.
-/
namespace Go.Proofs.YtgpnlidnbldiiaaGreat
open Go.RowKit
variable {P : Program} (w : World)
end Go.Proofs.YtgpnlidnbldiiaaGreat
namespace Go.Proofs.YtgpnlidnbldiiaaGreat
def aB:List UInt8→List (List UInt8)
 | []=>[[]]
 | c :: t=>if c=47 then [] :: aB t else match aB t with
   | []=>[[c]]
   | p :: ps=>(c :: p) :: ps
theorem lp (c:UInt8) (t:List UInt8):aB (c :: t)=if c=47 then [] :: aB t else match aB t with
 | []=>[[c]]
 | p :: ps=>(c :: p) :: ps:=rfl
theorem fS (l:List UInt8):aB l≠[]:=by
 induction l with
 | nil=>simp [aB]
 | cons c t ih =>
   unfold aB;split
   ·simp
   ·split <;> simp
theorem iD (l:List UInt8) (h:(47:UInt8) ∉ l):aB l=[l]:=by
 induction l with
 | nil=>rfl
 | cons c t ih =>
   simp only [List.mem_cons,not_or] at h;unfold aB;rw [if_neg (fun e=>h.1 e.symm),ih h.2]
theorem jy (a b:List UInt8) (h:(47:UInt8) ∉ a):aB (a++47 :: b)=a :: aB b:=by
 induction a with
 | nil=>simp [aB]
 | cons c t ih =>
   simp only [List.mem_cons,not_or] at h;rw [List.cons_append,lp,if_neg (fun e=>h.1 e.symm),ih h.2]
theorem iW (l:List UInt8):∀ p∈aB l,(47:UInt8) ∉ p:=by
 induction l with
 | nil=>simp [aB]
 | cons c t ih =>
   unfold aB;split
   ·intro p hp;simp only [List.mem_cons] at hp;rcases hp with rfl | hp;simp;exact ih p hp
   ·rename_i hc
    split
    ·intro p hp;simp only [List.mem_singleton] at hp;subst hp;simpa using fun e=>hc e.symm
    ·rename_i q qs hq
     rw [hq] at ih;intro p hp;simp only [List.mem_cons] at hp;rcases hp with rfl | hp
     ·simp only [List.mem_cons,not_or];exact ⟨fun e=>hc e.symm,ih q (by simp)⟩
     ·exact ih p (by simp [hp])
theorem Am (l:List UInt8):(47:UInt8) ∉ l∨∃ a b,l=a++47 :: b∧(47:UInt8) ∉ a:=by
 induction l with
 | nil=>exact .inl (by simp)
 | cons c t ih =>
   by_cases hc:c=47
   ·exact .inr ⟨[],t,by simp [hc],by simp⟩
   ·rcases ih with h | ⟨a,b,rfl,h⟩
    ·exact .inl (by simp only [List.mem_cons,not_or];exact ⟨fun e=>hc e.symm,h⟩)
    ·exact .inr ⟨c :: a,b,rfl,by simp only [List.mem_cons,not_or];exact ⟨fun e=>hc e.symm,h⟩⟩
def bg (ps:List (List UInt8)):List UInt8:=Lib.join ps [47]
theorem fm (p:List UInt8):bg [p]=p:=Lib.join_one p [47]
theorem dA (p q:List UInt8) (r:List (List UInt8)):bg (p :: q :: r)=p++47 :: bg (q :: r):=by
 unfold bg;rw [Lib.join_cons,Lib.join_cons];simp [Lib.joinTail]
theorem lz (l:List UInt8):bg (aB l)=l:=by
 induction l with
 | nil=>rfl
 | cons c t ih =>
   unfold aB;have hne:=fS t;by_cases hc:c=47
   ·rw [if_pos hc];cases h:aB t with
    | nil=>exact absurd h hne
    | cons p ps=>rw [dA,← h,ih,hc];rfl
   ·rw [if_neg hc];cases h:aB t with
    | nil=>exact absurd h hne
    | cons p ps =>
      rw [h] at ih;cases ps with
      | nil=>rw [fm] at ih;rw [fm,ih]
      | cons q qs=>rw [dA] at ih;rw [dA,← ih];rfl
theorem sW (ps:List (List UInt8)) (hne:ps≠[]) (h:∀ p∈ps,(47:UInt8) ∉ p):aB (bg ps)=ps:=by
 induction ps with
 | nil=>exact absurd rfl hne
 | cons p r ih =>
   cases r with
   | nil=>rw [fm,iD p (h p (by simp))]
   | cons q r =>
     rw [dA,jy _ _ (h p (by simp)),ih (by simp) (fun x hx=>h x (by simp [hx]))]
theorem xJ (x y:List (List UInt8)) (hx:x≠[]) (hy:y≠[]):bg (x++y)=bg x++47 :: bg y:=by
 induction x with
 | nil=>exact absurd rfl hx
 | cons p r ih =>
   cases r with
   | nil =>
     cases y with
     | nil=>exact absurd rfl hy
     | cons q y=>rw [fm];exact dA p q y
   | cons q r =>
     rw [dA,List.cons_append,List.cons_append,dA,← List.cons_append,ih (by simp)];simp
theorem tK {a b:List UInt8}(h:aB a=aB b):a=b:=by rw [← lz a,h,lz b]
theorem nZ (l:List UInt8):(aB l).length=l.countP (·=47)+1:=by
 induction l with
 | nil=>rfl
 | cons c t ih =>
   unfold aB;by_cases hc:c=47
   ·rw [if_pos hc,List.length_cons,ih,List.countP_cons];simp [hc]
   ·rw [if_neg hc,List.countP_cons];have hne:=fS t;cases h:aB t with
    | nil=>exact absurd h hne
    | cons p ps=>rw [h] at ih;simp only [List.length_cons] at ih ⊢;simp [hc];omega
theorem i9 (l:List UInt8):(aB l).length≤l.length+1:=by
 rw [nZ];have:=List.countP_le_length (p:=fun c:UInt8=>decide (c=47)) (l:=l)
 omega
structure pM {α:Type}(c:α→α→Int):Prop where
 anti:∀ a b,c b a=- c a b
 zero:∀ a b,c a b=0↔a=b
 trans:∀ a b d,c a b≤0→c b d≤0→c a d≤0
def gH {α:Type}(c:α→α→Int):List α→List α→Int
 | [],[]=>0
 | [],_ :: _=>-1
 | _ :: _,[]=>1
 | a :: as,b :: bs=>if c a b=0 then gH c as bs else c a b
theorem pM.lex {α:Type}{c:α→α→Int}(h:pM c):pM (gH c):=by
 refine ⟨?_,?_,?_⟩
 ·intro a;induction a with
  | nil=>intro b;cases b <;> simp [gH]
  | cons x a ih =>
    intro b;cases b with
    | nil=>simp [gH]
    | cons y b =>
      simp only [gH];rw [h.anti x y,ih b];by_cases hc:c x y=0
      ·simp [hc]
      ·rw [if_neg (by omega),if_neg hc]
 ·intro a;induction a with
  | nil=>intro b;cases b <;> simp [gH]
  | cons x a ih =>
    intro b;cases b with
    | nil=>simp [gH]
    | cons y b =>
      simp only [gH,List.cons.injEq];by_cases hc:c x y=0
      ·rw [if_pos hc,ih b];simp [(h.zero x y).1 hc]
      ·rw [if_neg hc];constructor
       ·intro e;exact absurd e hc
       ·rintro ⟨e,_⟩;exact absurd ((h.zero x y).2 e) hc
 ·intro a;induction a with
  | nil=>intro b d _ _;cases d <;> simp [gH]
  | cons x a ih =>
    intro b d hab hbd;cases b with
    | nil=>simp [gH] at hab
    | cons y b =>
      cases d with
      | nil=>simp [gH] at hbd
      | cons z d =>
        simp only [gH] at hab hbd ⊢;have hxy:c x y≤0:=by by_cases e:c x y=0 <;> simp [e] at hab <;> omega
        have hyz:c y z≤0:=by by_cases e:c y z=0 <;> simp [e] at hbd <;> omega
        have hxz:=h.trans x y z hxy hyz;by_cases e:c x z=0
        ·rw [if_pos e];have:=(h.zero x z).1 e
         subst this;have hyx:=h.anti x y;have e1:c x y=0:=by omega
         rw [if_pos e1] at hab;have:=(h.zero x y).1 e1
         subst this;rw [if_pos e] at hbd;exact ih b d hab hbd
        ·rw [if_neg e];exact hxz
theorem pM.strict {α:Type}{c:α→α→Int}(h:pM c) {x y z:α}(h1:c x y≤0) (h2:c y z≤0):c x z≤0∧(c x z < 0∨(c x y=0∧c y z=0)):=by
 have h3:=h.trans x y z h1 h2;refine ⟨h3,?_⟩;by_cases e:c x z=0
 ·right
  have:=(h.zero x z).1 e
  subst this;have:=h.anti x y
  omega
 ·left;omega
def ue (a b:UInt8):Int:=if a < b then -1 else if b < a then 1 else 0
theorem D4:pM ue:=by
 refine ⟨?_,?_,?_⟩
 ·intro a b;unfold ue;simp only [UInt8.lt_iff_toNat_lt];split <;> split <;> first | rfl | omega | (split <;> first | rfl | omega) | skip
 ·intro a b;unfold ue;rw [← UInt8.toNat_inj];simp only [UInt8.lt_iff_toNat_lt];split
  ·constructor <;> intro h <;> omega
  ·split
   ·constructor <;> intro h <;> omega
   ·constructor <;> intro h <;> omega
 ·intro a b d;unfold ue;simp only [UInt8.lt_iff_toNat_lt];intro h1 h2;split
  ·omega
  ·split
   ·split at h1
    ·split at h2
     ·omega
     ·split at h2 <;> omega
    ·split at h1
     ·omega
     ·split at h2
      ·omega
      ·split at h2 <;> omega
   ·omega
theorem lq:∀ a b:List UInt8,Lib.compareBytes a b=gH ue a b
 | [],[]=>rfl
 | [],_ :: _=>rfl
 | _ :: _,[]=>rfl
 | x :: a,y :: b=>by
   unfold Lib.compareBytes gH;rw [lq a b];unfold ue;split
   ·simp
   ·split <;> simp
theorem Dm:pM Lib.compareBytes:=by
 have:Lib.compareBytes=gH ue:=by funext a b;exact lq a b
 rw [this];exact D4.lex
def kU:List (List UInt8)→List (List UInt8)→Int:=gH Lib.compareBytes
theorem Bb:pM kU:=Dm.lex
def aA (a b:List UInt8):Int:=kU (aB a) (aB b)
theorem gh:pM aA :=
 ⟨fun a b=>Bb.anti _ _,fun a b=>⟨fun h=>tK ((Bb.zero _ _).1 h),fun h=>by rw [h];exact (Bb.zero _ _).2 rfl⟩,fun a b d=>Bb.trans _ _ _⟩
theorem kd (a b:List UInt8):Lib.compareBytes a b=-1∨Lib.compareBytes a b=0∨Lib.compareBytes a b=1:=by
 fun_induction Lib.compareBytes a b <;> simp_all
theorem xf (a b:List (List UInt8)):kU a b=-1∨kU a b=0∨kU a b=1:=by
 unfold kU;induction a generalizing b with
 | nil=>cases b <;> simp [gH]
 | cons x a ih =>
   cases b with
   | nil=>simp [gH]
   | cons y b =>
     simp only [gH];split
     ·exact ih b
     ·exact kd x y
def gi:List (List UInt8)→List (List UInt8)→Option (List (List UInt8))
 | k,[]=>some k
 | k,p :: ps=>if p=[]∨p=[46] then gi k ps else if p=[46,46] then (if k=[] then none else gi k.dropLast ps) else gi (k++[p]) ps
def eV (point:Bool) (c:UInt8):Bool:=(97≤c && c≤122) || (48≤c && c≤57) || c==95 || c==45 || (point && c==46)
def bu (point:Bool) (l:List UInt8):Bool:=0 < l.length && l.length≤24 && l.all (eV point)
def gR (k:List (List UInt8)):Option (List UInt8) :=
 if k=[]∨8 < k.length then none else if k.all (bu true)=true∧(bg k).length≤64 then some (bg k) else none
def dJ (l:List UInt8):Option (List UInt8):=(gi [] (aB l)).bind gR
def zp (p:List UInt8):Prop:=p≠[]∧p≠[46]∧p≠[46,46]∧(47:UInt8) ∉ p
theorem m8 (k ps r:List (List UInt8)) (hk:∀ p∈k,zp p) (hp:∀ p∈ps,(47:UInt8) ∉ p) (h:gi k ps=some r):∀ p∈r,zp p:=by
 induction ps generalizing k with
 | nil=>simp only [gi,Option.some.injEq] at h;subst h;exact hk
 | cons q ps ih =>
   simp only [gi] at h;have hps:∀ p∈ps,(47:UInt8) ∉ p:=fun p h=>hp p (by simp [h]);split at h
   ·exact ih k hk hps h
   ·rename_i h1
    simp only [not_or] at h1;split at h
    ·split at h
     ·cases h
     ·exact ih _ (fun p h=>hk p (List.dropLast_subset k h)) hps h
    ·rename_i h2
     refine ih _ ?_ hps h;intro p hm;simp only [List.mem_append,List.mem_singleton] at hm;rcases hm with hm | rfl
     ·exact hk p hm
     ·exact ⟨h1.1,h1.2,h2,hp p (by simp)⟩
theorem pf {k:List (List UInt8)}{p:List UInt8}(h:gR k=some p):k≠[]∧k.length≤8∧k.all (bu true)=true∧(bg k).length≤64∧p=bg k:=by
 unfold gR at h;split at h
 ·cases h
 ·rename_i h1
  simp only [not_or] at h1;split at h
  ·rename_i h2;simp only [Option.some.injEq] at h;exact ⟨h1.1,by omega,h2.1,h2.2,h.symm⟩
  ·cases h
theorem sY {l p:List UInt8}(h:dJ l=some p):∃ k,gi [] (aB l)=some k∧gR k=some p∧(∀ q∈k,zp q)∧aB p=k:=by
 unfold dJ at h;cases hr:gi [] (aB l) with
 | none=>rw [hr] at h;cases h
 | some k =>
   rw [hr] at h;have hf:gR k=some p:=h;have hs:=m8 [] _ k (by simp) (iW l) hr;obtain ⟨h1,h2,h3,h4,rfl⟩:=pf hf;exact ⟨k,rfl,hf,hs,sW k h1 (fun q hq=>(hs q hq).2.2.2)⟩
theorem oG {l p:List UInt8}(h:dJ l=some p):p.length≤64:=by
 obtain ⟨k,h1,h2,h3,h4⟩:=sY h;obtain ⟨_,_,_,h5,rfl⟩:=pf h2;exact h5
structure Ch where
 p:List UInt8
 g:Bool
 d:Int
deriving DecidableEq
def sI (L:List Ch):Prop:=L.Pairwise fun a b=>aA a.p b.p≤0
def qw (k:List UInt8) (L:List Ch):List Ch:=L.filter fun x=>decide (x.p=k)
def bR (L M:List Ch):Prop:=∀ k,qw k L=qw k M
theorem bR.refl (L:List Ch):bR L L:=fun _=>rfl
theorem bR.symm {L M:List Ch}(h:bR L M):bR M L:=fun k=>(h k).symm
theorem bR.trans {L M K:List Ch}(h:bR L M) (h2:bR M K):bR L K:=fun k=>(h k).trans (h2 k)
theorem lY (k:List UInt8) (L M:List Ch):qw k (L++M)=qw k L++qw k M:=List.filter_append ..
theorem bR.app {L L' M M':List Ch}(h:bR L L') (h2:bR M M'):bR (L++M) (L'++M'):=fun k=>by
 rw [lY,lY,h k,h2 k]
theorem qZ {k:List UInt8}{L:List Ch}(h:∀ x∈L,x.p≠k):qw k L=[]:=by
 unfold qw;rw [List.filter_eq_nil_iff];intro x hx;simpa using h x hx
theorem bR.swap {U V:List Ch}(h:∀ u∈U,∀ v∈V,u.p≠v.p):bR (U++V) (V++U):=fun k=>by
 rw [lY,lY];by_cases hu:∃ u∈U,u.p=k
 ·obtain ⟨u,hu,rfl⟩:=hu;rw [qZ (L:=V) (fun v hv e=>h u hu v hv e.symm)];simp
 ·rw [qZ (L:=U) (fun u h2 e=>hu ⟨u,h2,e⟩)];simp
theorem bR.mem {L M:List Ch}(h:bR L M) (x:Ch):x∈L↔x∈M:=by
 have e:∀ K:List Ch,x∈K↔x∈qw x.p K:=fun K=>by simp [qw]
 rw [e L,e M,h]
theorem bR.perm {L M:List Ch}(h:bR L M):L.Perm M:=by
 rw [List.perm_iff_count];intro x
 have e:∀ K:List Ch,K.count x=(qw x.p K).count x:=fun K=>by
  unfold qw;rw [List.count_filter];simp
 rw [e L,e M,h]
theorem bR.length {L M:List Ch}(h:bR L M):L.length=M.length:=h.perm.length_eq
theorem kf {a b c:List UInt8}(h1:aA a b≤0) (h2:aA b c≤0):aA a c≤0:=(gh.strict h1 h2).1
theorem Ax {a b:List UInt8}(h1:aA a b≤0) (h2:aA b a≤0):a=b:=by
 apply (gh.zero a b).1
 have:=gh.anti a b
 omega
theorem gM (a:List UInt8):aA a a=0:=(gh.zero a a).2 rfl
theorem l6 {a b:List UInt8}(h:aA a b < 0):a≠b:=fun e=>by subst e;rw [gM] at h;omega
theorem kC {a b:List UInt8}(h:¬ aA a b < 0):aA b a≤0:=by
 have:=gh.anti a b
 omega
theorem bR.one {L M:List Ch}(h:bR L M) (hL:sI L) (hM:sI M):L=M:=by
 induction L generalizing M with
 | nil =>
   cases M with
   | nil=>rfl
   | cons y M=>have:=h.length;simp at this
 | cons x L ih =>
   cases M with
   | nil=>have:=h.length;simp at this
   | cons y M =>
     have hx:x∈y :: M:=(h.mem x).1 (by simp);have hy:y∈x :: L:=(h.mem y).2 (by simp)
     have h1:aA y.p x.p≤0:=by
      rcases List.mem_cons.1 hx with e | hx
      ·rw [e,gM];omega
      ·exact (List.pairwise_cons.1 hM).1 x hx
     have h2:aA x.p y.p≤0:=by
      rcases List.mem_cons.1 hy with e | hy
      ·rw [e,gM];omega
      ·exact (List.pairwise_cons.1 hL).1 y hy
     have e:x.p=y.p:=Ax h2 h1;have h3:=h x.p;have e1:qw x.p (x :: L)=x :: qw x.p L:=by simp [qw]
     have e2:qw x.p (y :: M)=y :: qw x.p M:=by simp [qw,e]
     rw [e1,e2] at h3;obtain ⟨rfl,_⟩:=List.cons.inj h3;congr 1
     refine ih (fun k=>?_) (List.pairwise_cons.1 hL).2 (List.pairwise_cons.1 hM).2;have h4:=h k;by_cases hk:x.p=k
     ·subst hk;rw [e1,e2] at h4;exact (List.cons.inj h4).2
     ·simpa [qw,hk] using h4
def iu (f:Nat→Ch) (a b:Nat):List Ch:=(List.range' a (b - a)).map f
theorem ft (f:Nat→Ch) (a b:Nat):(iu f a b).length=b - a:=by simp [iu]
theorem i6 (f:Nat→Ch) (a b i:Nat) (h:i < (iu f a b).length):(iu f a b)[i]=f (a+i):=by simp [iu]
theorem gZ (f:Nat→Ch) {a m b:Nat}(h1:a≤m) (h2:m≤b):iu f a b=iu f a m++iu f m b:=by
 unfold iu;rw [← List.map_append];congr 1
 rw [show b - a=(m - a)+(b - m) by omega,← List.range'_append];congr 2
 omega
theorem qI {f g:Nat→Ch}{a b:Nat}(h:∀ k,a≤k→k < b→f k=g k):iu f a b=iu g a b:=by
 unfold iu;apply List.map_congr_left
 intro k hk;rw [List.mem_range'_1] at hk;exact h k hk.1 (by omega)
theorem vw (f:Nat→Ch) (a:Nat):iu f a (a+1)=[f a]:=by
 unfold iu;rw [show a+1 - a=1 by omega];rfl
theorem oA {f g:Nat→Ch}{a b c:Nat}(h:∀ k,k < b - a→f (a+k)=g (c+k)):iu f a b=iu g c (c+(b - a)):=by
 apply List.ext_getElem
 ·rw [ft,ft];omega
 ·intro i h1 h2;rw [i6,i6];rw [ft] at h1;exact h i h1
theorem lX {f:Nat→Ch}{a b:Nat}{x:Ch}:x∈iu f a b↔∃ k,a≤k∧k < b∧f k=x:=by
 unfold iu;rw [List.mem_map];constructor
 ·rintro ⟨k,hk,rfl⟩;rw [List.mem_range'_1] at hk;exact ⟨k,hk.1,by omega,rfl⟩
 ·rintro ⟨k,h1,h2,rfl⟩;exact ⟨k,by rw [List.mem_range'_1];omega,rfl⟩
def bU (f:Nat→Ch) (a b:Nat):Prop:=∀ p q,a≤p→p < q→q < b→aA (f p).p (f q).p≤0
theorem bU.ris {f:Nat→Ch}{a b:Nat}(h:bU f a b):sI (iu f a b):=by
 unfold sI;rw [List.pairwise_iff_getElem];intro i j hi hj hij;rw [i6,i6];rw [ft] at hi hj;exact h _ _ (by omega) (by omega) (by omega)
structure aO (f g:Nat→Ch) (a b:Nat):Prop where
 alike:bR (iu f a b) (iu g a b)
 same:∀ k,k < a∨b≤k→g k=f k
theorem aO.refl (f:Nat→Ch) (a b:Nat):aO f f a b:=⟨bR.refl _,fun _ _=>rfl⟩
theorem aO.trans {f g h:Nat→Ch}{a b:Nat}(h1:aO f g a b) (h2:aO g h a b):aO f h a b :=
 ⟨h1.alike.trans h2.alike,fun k hk=>(h2.same k hk).trans (h1.same k hk)⟩
theorem aO.wide {f g:Nat→Ch}{a b c d:Nat}(h:aO f g c d) (h1:a≤c) (h2:c≤d) (h3:d≤b):aO f g a b:=by
 refine ⟨?_,fun k hk=>h.same k (by omega)⟩;rw [gZ f h1 (by omega:c≤b),gZ g h1 (by omega:c≤b),gZ f h2 h3,gZ g h2 h3];have e1:iu g a c=iu f a c:=qI fun k _ hk=>h.same k (by omega);have e2:iu g d b=iu f d b:=qI fun k hk _=>h.same k (by omega);rw [e1,e2];exact (bR.refl _).app (h.alike.app (bR.refl _))
theorem aO.find {f g:Nat→Ch}{a b:Nat}(h:aO f g a b) {k:Nat}(h1:a≤k) (h2:k < b):∃ j,a≤j∧j < b∧f j=g k :=
 lX.1 ((h.alike.mem (g k)).2 (lX.2 ⟨k,h1,h2,rfl⟩))
def jE (f:Nat→Ch) (i j:Nat):Nat→Ch:=fun k=>if k=i then f j else if k=j then f i else f k
theorem kP (f:Nat→Ch) (j:Nat) (h:(f j).p≠(f (j+1)).p):aO f (jE f j (j+1)) j (j+2):=by
 refine ⟨?_,fun k hk=>?_⟩
 ·have e:∀ g:Nat→Ch,iu g j (j+2)=[g j]++[g (j+1)]:=fun g=>by
   rw [gZ g (by omega:j≤j+1) (by omega),vw,show j+2=j+1+1 from rfl,vw]
  rw [e,e];have e1:jE f j (j+1) j=f (j+1):=by simp [jE]
  have e2:jE f j (j+1) (j+1)=f j:=by simp [jE]
  rw [e1,e2];exact bR.swap (by simpa using h)
 ·simp only [jE];rw [if_neg (by omega),if_neg (by omega)]
theorem su (f:Nat→Ch) (i j:Nat):jE f i j=jE f j i:=by
 funext k
 simp only [jE];by_cases h1:k=i <;> by_cases h2:k=j <;> simp_all
open Go.RowKit
structure aa (S:List Nat) (w w':World):Prop where
 os:w'.os=w.os
 tape:w'.tape=w.tape
 output:w'.output=w.output
 size:w.heap.size≤w'.heap.size
 block:∀ k,k < w.heap.size→k ∉ S→w'.heap[k]?=w.heap[k]?
theorem aa.refl (S:List Nat) (w:World):aa S w w:=⟨rfl,rfl,rfl,Nat.le_refl _,fun _ _ _=>rfl⟩
theorem aa.trans {S T:List Nat}{a b c:World}(h:aa S a b) (k:aa T b c) (hT:∀ i∈T,i∈S∨a.heap.size≤i):aa S a c :=
 ⟨k.os.trans h.os,k.tape.trans h.tape,k.output.trans h.output,Nat.le_trans h.size k.size,fun i hi hS=>by
  rw [k.block i (Nat.lt_of_lt_of_le hi h.size) (fun hm=>by rcases hT i hm with h1 | h1;exact hS h1;omega),h.block i hi hS]⟩
theorem aa.mono {S T:List Nat}{a b:World}(h:aa S a b) (hT:∀ i∈S,i∈T∨a.heap.size≤i):aa T a b :=
 (aa.refl T a).trans h hT
theorem aa.drew {S:List Nat}{a w:World}(h:aa S a w):aa S a w.drew:=⟨h.os,h.tape,h.output,h.size,h.block⟩
theorem aa.alloc {S:List Nat}{a w:World}(h:aa S a w) (o:Obj):aa S a (w.alloc o) :=
 h.trans (T:=[]) ⟨rfl,rfl,rfl,by simp,fun k hk _=>Below.heap_alloc _ _ _ hk⟩ (by simp)
theorem aa.setCell {S:List Nat}{a w:World}(h:aa S a w) {p:Addr}(hp:p.block∈S∨a.heap.size≤p.block) (u:Value):aa S a (w.setCell p u) :=
 h.trans (T:=[p.block]) ⟨rfl,rfl,rfl,by simp [World.setCell],fun k _ hk=>Below.heap_setCell _ _ _ _ (by simpa using hk)⟩ (by simpa using hp)
theorem aa.grown {S:List Nat}{a w w':World}{row:Option Nat}(h:aa S a w) (hg:w.grownBy w' row) (hr:∀ k,row=some k→k∈S∨a.heap.size≤k):aa S a w' :=
 ⟨hg.os.trans h.os,hg.tape.trans h.tape,hg.output.trans h.output,Nat.le_trans h.size hg.size,fun i hi hS=>by
  rw [hg.block i (Nat.lt_of_lt_of_le hi h.size) (fun e=>by rcases hr i e.symm with h1 | h1;exact hS h1;omega),h.block i hi hS]⟩
theorem aa.drewN {S:List Nat}{a w:World}(h:aa S a w) (n:Nat):aa S a (w.drewN n):=⟨h.os,h.tape,h.output,h.size,h.block⟩
theorem aa.below {S:List Nat}{a w:World}(h:aa S a w) {B:Nat}(hB:B≤a.heap.size) (hS:∀ i∈S,B≤i):Below B a w :=
 ⟨h.os,h.tape,h.output,h.size,fun k hk=>h.block k (by omega) (fun hm=>by have:=hS k hm;omega)⟩
theorem aa.of_below {S:List Nat}{a w:World}(h:Below a.heap.size a w):aa S a w :=
 ⟨h.os,h.tape,h.output,h.size,fun k hk _=>h.block k hk⟩
theorem aa.cell {S:List Nat}{a w:World}(h:aa S a w) {p:Addr}{v:Value}(hc:a.cell? p=some v) (hS:p.block ∉ S):w.cell? p=some v:=by
 have hb:p.block < a.heap.size:=by
  unfold World.cell? at hc;by_cases hlt:p.block < a.heap.size
  ·exact hlt
  ·rw [Array.getElem?_eq_none (by omega)] at hc;simp at hc
 rw [← hc];exact World.cell?_of_block (w:=a) (h.block _ hb hS)
theorem aa.at {S:List Nat}{a w:World}(h:aa S a w) {k:Nat}{o:Obj}(hc:a.heap[k]?=some o) (hS:k ∉ S):w.heap[k]?=some o:=by
 have hb:k < a.heap.size:=by
  by_cases hlt:k < a.heap.size
  ·exact hlt
  ·rw [Array.getElem?_eq_none (by omega)] at hc;simp at hc
 rw [← hc];exact h.block _ hb hS
theorem aq {w:World}{k:Nat}{o:Obj}(hc:w.heap[k]?=some o):k < w.heap.size:=by
 by_cases hlt:k < w.heap.size
 ·exact hlt
 ·rw [Array.getElem?_eq_none (by omega)] at hc;simp at hc
theorem aa.ownsRow {S:List Nat}{a w:World}(h:aa S a w) {base:Nat}{e:TypeId}{size:Nat}{v:Value}{n:Nat}{xs:List Value}
 (ho:a.ownsRow base e size v n xs) (hS:∀ k,v.ownBlock=some k→k ∉ S):w.ownsRow base e size v n xs:=by
 obtain ⟨h1,h2⟩:=ho;refine ⟨h1,?_⟩;rcases h2 with h2 | ⟨g,cap,cur,hv,hg,hh,r⟩
 ·exact .inl h2
 ·exact .inr ⟨g,cap,cur,hv,hg,h.at hh (hS g (by rw [hv];rfl)),r⟩
def Er:Option Addr→List Nat
 | some a=>[a.block]
 | none=>[]
def ak (l:List UInt8):ByteArray:=⟨l.toArray⟩
theorem bE (l:List UInt8):(ak l).data.toList=l:=by simp [ak]
theorem bw (l:List UInt8):(ak l).size=l.length:=by rw [Lib.size_eq,bE]
theorem mK (s:ByteArray):s=ak s.data.toList:=by cases s;simp [ak]
theorem qd:ak []=ByteArray.empty:=rfl
def gW (x:Ch):List Ch→List Ch
 | []=>[x]
 | y :: L=>if aA y.p x.p≤0 then y :: gW x L else x :: y :: L
def an (L:List Ch):List Ch:=L.foldl (fun M x=>gW x M) []
theorem yM {x z:Ch}{L:List Ch}(h:z∈gW x L):z=x∨z∈L:=by
 induction L with
 | nil=>simp [gW] at h;exact .inl h
 | cons y L ih =>
   simp only [gW] at h;split at h
   ·rcases List.mem_cons.1 h with rfl | h
    ·exact .inr (by simp)
    ·rcases ih h with e | e
     ·exact .inl e
     ·exact .inr (by simp [e])
   ·rcases List.mem_cons.1 h with rfl | h
    ·exact .inl rfl
    ·exact .inr h
theorem zF (x:Ch) {L:List Ch}(h:sI L):sI (gW x L):=by
 induction L with
 | nil=>simp [gW,sI]
 | cons y L ih =>
   unfold sI at h ih ⊢;rw [List.pairwise_cons] at h;simp only [gW];split
   ·rename_i hc
    rw [List.pairwise_cons];refine ⟨fun z hz=>?_,ih h.2⟩;rcases yM hz with rfl | hz
    ·exact hc
    ·exact h.1 z hz
   ·rename_i hc
    have h1:aA x.p y.p≤0:=by have:=gh.anti x.p y.p;omega
    rw [List.pairwise_cons];refine ⟨fun z hz=>?_,by rw [List.pairwise_cons];exact h⟩;rcases List.mem_cons.1 hz with rfl | hz
    ·exact h1
    ·exact kf h1 (h.1 z hz)
theorem ud (x:Ch) {L:List Ch}(h:sI L):bR (L++[x]) (gW x L):=by
 induction L with
 | nil=>exact bR.refl _
 | cons y L ih =>
   unfold sI at h ih;rw [List.pairwise_cons] at h;simp only [gW];split
   ·exact (bR.refl [y]).app (ih h.2)
   ·rename_i hc
    refine bR.swap (U:=y :: L) (V:=[x]) fun u hu v hv e=>?_;simp at hv
    subst hv;apply hc
    rcases List.mem_cons.1 hu with rfl | hu
    ·rw [e,gM];omega
    ·rw [← e];exact h.1 u hu
theorem na (L:List Ch) (x:Ch):an (L++[x])=gW x (an L):=by simp [an]
theorem oV (L:List Ch):sI (an L)∧bR L (an L):=by
 rw [← List.reverse_reverse L];induction L.reverse with
 | nil=>exact ⟨by simp [an,sI],bR.refl _⟩
 | cons x M ih =>
   rw [List.reverse_cons,na];exact ⟨zF x ih.1,(ih.2.app (bR.refl [x])).trans (ud x ih.1)⟩
theorem je (L:List Ch):sI (an L):=(oV L).1
theorem eE (L:List Ch):bR L (an L):=(oV L).2
theorem qm (L:List Ch):(an L).length=L.length:=(eE L).length.symm
def fk (x:Ch):Bool:=decide (dJ x.p=some x.p) && !(x.g && !(x.d==0))
def cQ (L:List Ch):Prop:=0 < L.length∧L.length≤16∧∀ i (hi:i < L.length),fk L[i]=true∧∀ k (hk:k < i),L[k].p≠L[i].p
noncomputable def gy (L:List Ch):Int:=@ite _ (cQ L) (Classical.propDecidable _) 0 1
theorem ia {L:List Ch}(h:cQ L):gy L=0:=by unfold gy;rw [if_pos h]
theorem dP {L:List Ch}(h:¬ cQ L):gy L=1:=by unfold gy;rw [if_neg h]
theorem kY {L:List Ch}:gy L=0↔cQ L:=by
 by_cases h:cQ L
 ·simp [ia h,h]
 ·simp [dP h,h]
theorem gn (L:List Ch):cQ L↔0 < L.length∧L.length≤16∧(∀ x∈L,fk x=true)∧(L.map Ch.p).Nodup:=by
 unfold cQ;constructor
 ·rintro ⟨h1,h2,h3⟩;refine ⟨h1,h2,fun x hx=>?_,?_⟩
  ·obtain ⟨i,hi,rfl⟩:=List.getElem_of_mem hx;exact (h3 i hi).1
  ·rw [List.Nodup,List.pairwise_iff_getElem];intro i j hi hj hij;simp only [List.length_map] at hi hj;simp only [List.getElem_map];exact (h3 j hj).2 i hij
 ·rintro ⟨h1,h2,h3,h4⟩;refine ⟨h1,h2,fun i hi=>⟨h3 _ (List.getElem_mem hi),fun k hk=>?_⟩⟩;rw [List.Nodup,List.pairwise_iff_getElem] at h4;have:=h4 k i (by simp;omega) (by simpa using hi) hk
  simpa using this
structure aV where
 r:Int
 b:Int
 n:List UInt8
 c:List Ch
deriving DecidableEq
structure Vt where
 c:Int
 s:Int
 r:Int
 p:List UInt8
 d:Int
 k:List aV
 m:Int
deriving DecidableEq
def cq (c:Int):Vt:=⟨c,0,0,[],0,[],0⟩
def Bz (x:Ch):Prop:=x.p.length≤140737488351232
def Cy (x:aV):Prop:=x.n.length≤140737488351232∧x.c.length≤4398046510976∧∀ y∈x.c,Bz y
def vh (v:Vt):Prop:=v.p.length≤140737488351232∧v.k.length≤2513169434843∧∀ x∈v.k,Cy x
theorem pB (c:Int):vh (cq c):=⟨by simp [cq],by simp [cq],by simp [cq]⟩
structure Rq where
 k:Int
 n:List UInt8
 s:Int
 q:Int
 b:Int
 f:List UInt8
 c:List Ch
 p:List UInt8
 fr:Int
 mn:Int
 mb:Int
deriving DecidableEq
structure Lf where
 p:List UInt8
 d:Int
 r:Int
 g:Bool
deriving DecidableEq
inductive Tr where
 | nil
 | node (l:Tr) (x:Lf) (r:Tr)
namespace Tr
def size:Tr→Nat
 | nil=>0
 | node l _ r=>l.size+1+r.size
def height:Tr→Nat
 | nil=>0
 | node l _ r=>max l.height r.height+1
def list:Tr→List Lf
 | nil=>[]
 | node l x r=>l.list++x :: r.list
def lean:Tr→Int
 | nil=>0
 | node l _ r=>(r.height:Int) - l.height
def turnR:Tr→Tr
 | node (node a y b) x r=>node a y (node b x r)
 | t=>t
def turnL:Tr→Tr
 | node l x (node b y c)=>node (node l x b) y c
 | t=>t
def turnRR:Tr→Tr
 | node l x r=>turnR (node (turnL l) x r)
 | t=>t
def turnLL:Tr→Tr
 | node l x r=>turnL (node l x (turnR r))
 | t=>t
def left:Tr→Tr
 | nil=>nil
 | node l _ _=>l
def right:Tr→Tr
 | nil=>nil
 | node _ _ r=>r
def level (t:Tr):Tr :=
 if t.lean < -1 then (if 0 < t.left.lean then turnRR t else turnR t)
 else if 1 < t.lean then (if t.right.lean < 0 then turnLL t else turnL t) else t
def put (x:Lf):Tr→Tr
 | nil=>node nil x nil
 | node l y r=>if aA x.p y.p=-1 then level (node (put x l) y r) else if aA x.p y.p=1 then level (node l y (put x r)) else node l x r
def get (f:List UInt8):Tr→Option Lf
 | nil=>none
 | node l x r=>if aA f x.p=-1 then get f l else if aA f x.p=1 then get f r else some x
def bal:Tr→Prop
 | nil=>True
 | node l _ r=>l.bal∧r.bal∧l.height≤r.height+1∧r.height≤l.height+1
end Tr
theorem qq (t:Tr):t.list.length=t.size:=by
 induction t with
 | nil=>rfl
 | node l x r h1 h2=>simp [Tr.list,Tr.size,h1,h2];omega
theorem i4 (t:Tr):t.height≤t.size:=by
 induction t with
 | nil=>exact Nat.le_refl _
 | node l x r h1 h2=>simp only [Tr.height,Tr.size];omega
theorem jM (t:Tr):(Tr.turnR t).list=t.list:=by
 unfold Tr.turnR;split <;> simp [Tr.list]
theorem jC (t:Tr):(Tr.turnL t).list=t.list:=by
 unfold Tr.turnL;split <;> simp [Tr.list]
theorem rk (t:Tr):(Tr.turnRR t).list=t.list:=by
 unfold Tr.turnRR;split
 ·rw [jM];simp [Tr.list,jC]
 ·rfl
theorem rV (t:Tr):(Tr.turnLL t).list=t.list:=by
 unfold Tr.turnLL;split
 ·rw [jC];simp [Tr.list,jM]
 ·rfl
theorem jP (t:Tr):(Tr.level t).list=t.list:=by
 unfold Tr.level;split
 ·split
  ·exact rk t
  ·exact jM t
 ·split
  ·split
   ·exact rV t
   ·exact jC t
  ·rfl
def qe (L:List Lf):Prop:=L.Pairwise fun a b=>aA a.p b.p < 0
def dh (x:Lf):List Lf→List Lf
 | []=>[x]
 | y :: ys=>if aA x.p y.p=0 then x :: ys else if aA x.p y.p < 0 then x :: y :: ys else y :: dh x ys
theorem fA (a b:List UInt8):aA a b=-1∨aA a b=0∨aA a b=1:=xf _ _
theorem lZ {a b c:List UInt8}(h1:aA a b < 0) (h2:aA b c < 0):aA a c < 0:=by
 have:=gh.strict (x:=a) (y:=b) (z:=c) (by omega) (by omega)
 omega
theorem k9 (a:List UInt8):aA a a=0:=(gh.zero a a).2 rfl
theorem uQ {A B:List Lf}{y:Lf}(h:qe (A++y :: B)):qe A∧qe B∧(∀ a∈A,aA a.p y.p < 0)∧(∀ b∈B,aA y.p b.p < 0)∧∀ a∈A,∀ b∈B,aA a.p b.p < 0:=by
 unfold qe at h ⊢;rw [List.pairwise_append,List.pairwise_cons] at h;exact ⟨h.1,h.2.1.2,fun a ha=>h.2.2 a ha y (by simp),h.2.1.1,fun a ha b hb=>h.2.2 a ha b (by simp [hb])⟩
theorem vI (x y:Lf) (A B:List Lf) (h:aA x.p y.p=-1):dh x (A++y :: B)=dh x A++y :: B:=by
 induction A with
 | nil=>simp [dh,h]
 | cons z A ih =>
   simp only [List.cons_append,dh];split
   ·rfl
   ·split
    ·rfl
    ·rw [ih];rfl
theorem tH (x y:Lf) (A B:List Lf) (hA:∀ a∈A,aA a.p y.p < 0) (h:aA x.p y.p=1):dh x (A++y :: B)=A++y :: dh x B:=by
 have hyx:aA y.p x.p=-1:=by rw [gh.anti x.p y.p,h]
 induction A with
 | nil=>simp [dh,h]
 | cons z A ih =>
   have hz:aA z.p x.p < 0:=lZ (hA z (by simp)) (by omega);have hxz:=gh.anti z.p x.p;simp only [List.cons_append,dh];rw [if_neg (by omega),if_neg (by omega),ih (fun a ha=>hA a (by simp [ha]))]
theorem xA (x y:Lf) (A B:List Lf) (hA:∀ a∈A,aA a.p y.p < 0) (h:aA x.p y.p=0):dh x (A++y :: B)=A++x :: B:=by
 have e:=(gh.zero _ _).1 h;induction A with
 | nil=>simp [dh,h]
 | cons z A ih =>
   have hz:aA z.p x.p < 0:=by rw [e];exact hA z (by simp)
   have hxz:=gh.anti z.p x.p;simp only [List.cons_append,dh];rw [if_neg (by omega),if_neg (by omega),ih (fun a ha=>hA a (by simp [ha]))]
theorem uS {x z:Lf}{L:List Lf}(h:z∈dh x L):z=x∨z∈L:=by
 induction L with
 | nil=>simpa [dh] using h
 | cons y L ih =>
   simp only [dh] at h;split at h
   ·simp only [List.mem_cons] at h ⊢;rcases h with h | h;exact .inl h;exact .inr (.inr h)
   ·split at h
    ·simp only [List.mem_cons] at h ⊢;exact h
    ·simp only [List.mem_cons] at h ⊢;rcases h with h | h
     ·exact .inr (.inl h)
     ·rcases ih h with h | h
      ·exact .inl h
      ·exact .inr (.inr h)
theorem uW (x:Lf) (L:List Lf) (h:qe L):qe (dh x L):=by
 unfold qe at h ⊢;induction L with
 | nil=>simp [dh]
 | cons y L ih =>
   rw [List.pairwise_cons] at h;simp only [dh];split
   ·rename_i e
    have e:=(gh.zero _ _).1 e;rw [List.pairwise_cons];exact ⟨fun a ha=>by rw [e];exact h.1 a ha,h.2⟩
   ·split
    ·rename_i e1 e2
     rw [List.pairwise_cons,List.pairwise_cons];refine ⟨fun a ha=>?_,h⟩;simp only [List.mem_cons] at ha;rcases ha with rfl | ha
     ·exact e2
     ·exact lZ e2 (h.1 a ha)
    ·rename_i e1 e2
     rw [List.pairwise_cons];refine ⟨fun a ha=>?_,ih h.2⟩;rcases uS ha with rfl | ha
     ·have:=gh.anti y.p a.p;omega
     ·exact h.1 a ha
theorem ms (x:Lf) (L:List Lf):(dh x L).length≤L.length+1∧L.length≤(dh x L).length:=by
 induction L with
 | nil=>simp [dh]
 | cons y L ih =>
   simp only [dh];split
   ·simp
   ·split
    ·simp
    ·simp only [List.length_cons];omega
theorem mC (x:Lf) (t:Tr) (h:qe t.list):(t.put x).list=dh x t.list:=by
 induction t with
 | nil=>rfl
 | node l y r h1 h2 =>
   obtain ⟨a1,a2,a3,a4,a5⟩:=uQ h;simp only [Tr.put,Tr.list];rcases fA x.p y.p with e | e | e
   ·rw [if_pos e,jP,vI x y _ _ e];simp only [Tr.list];rw [h1 a1]
   ·rw [if_neg (by omega),if_neg (by omega),xA x y _ _ a3 e];rfl
   ·rw [if_neg (by omega),if_pos e,jP,tH x y _ _ a3 e];simp only [Tr.list];rw [h2 a2]
theorem AB (x:Lf) (t:Tr) (h:qe t.list):qe (t.put x).list:=by
 rw [mC x t h];exact uW x _ h
theorem xy {l r:Tr}{y:Lf}(hl:l.bal) (hr:r.bal) (e:l.height=r.height+2) (hle:¬ 0 < l.lean):(Tr.turnR (.node l y r)).bal∧((Tr.turnR (.node l y r)).height=r.height+2∨(Tr.turnR (.node l y r)).height=r.height+3):=by
 cases l with
 | nil=>simp [Tr.height] at e
 | node a z b =>
   simp only [Tr.bal,Tr.height,Tr.lean,Tr.turnR] at *;refine ⟨⟨hl.1,⟨hl.2.1,hr,?_,?_⟩,?_,?_⟩,?_⟩ <;> omega
theorem vM {l r:Tr}{y:Lf}(hl:l.bal) (hr:r.bal) (e:r.height=l.height+2) (hle:¬ r.lean < 0):(Tr.turnL (.node l y r)).bal∧((Tr.turnL (.node l y r)).height=l.height+2∨(Tr.turnL (.node l y r)).height=l.height+3):=by
 cases r with
 | nil=>simp [Tr.height] at e
 | node a z b =>
   simp only [Tr.bal,Tr.height,Tr.lean,Tr.turnL] at *;refine ⟨⟨⟨hl,hr.1,?_,?_⟩,hr.2.1,?_,?_⟩,?_⟩ <;> omega
theorem tU {l r:Tr}{y:Lf}(hl:l.bal) (hr:r.bal) (e:l.height=r.height+2) (hle:0 < l.lean):(Tr.turnRR (.node l y r)).bal∧(Tr.turnRR (.node l y r)).height=r.height+2:=by
 cases l with
 | nil=>simp [Tr.height] at e
 | node a z b =>
   cases b with
   | nil=>simp only [Tr.lean,Tr.height] at hle;omega
   | node c u d =>
     simp only [Tr.bal,Tr.height,Tr.lean,Tr.turnRR,Tr.turnL,Tr.turnR] at *;refine ⟨⟨⟨hl.1,hl.2.1.1,?_,?_⟩,⟨hl.2.1.2.1,hr,?_,?_⟩,?_,?_⟩,?_⟩ <;> omega
theorem te {l r:Tr}{y:Lf}(hl:l.bal) (hr:r.bal) (e:r.height=l.height+2) (hle:r.lean < 0):(Tr.turnLL (.node l y r)).bal∧(Tr.turnLL (.node l y r)).height=l.height+2:=by
 cases r with
 | nil=>simp [Tr.height] at e
 | node a z b =>
   cases a with
   | nil=>simp only [Tr.lean,Tr.height] at hle;omega
   | node c u d =>
     simp only [Tr.bal,Tr.height,Tr.lean,Tr.turnLL,Tr.turnL,Tr.turnR] at *;refine ⟨⟨⟨hl,hr.1.1,?_,?_⟩,⟨hr.1.2.1,hr.2.1,?_,?_⟩,?_,?_⟩,?_⟩ <;> omega
theorem Bg (x:Lf) (t:Tr) (h:t.bal):(t.put x).bal∧t.height≤(t.put x).height∧(t.put x).height≤t.height+1:=by
 induction t with
 | nil=>simp [Tr.put,Tr.bal,Tr.height]
 | node l y r h1 h2 =>
   obtain ⟨hl,hr,b1,b2⟩:=h;simp only [Tr.put];rcases fA x.p y.p with e | e | e
   ·rw [if_pos e];obtain ⟨g1,g2,g3⟩:=h1 hl;have hln:(Tr.node (l.put x) y r).lean=(r.height:Int) - (l.put x).height:=rfl;unfold Tr.level;by_cases c:(l.put x).height=r.height+2
    ·rw [if_pos (by omega)];by_cases c2:0 < (Tr.node (l.put x) y r).left.lean
     ·rw [if_pos c2];have:=tU (y:=y) g1 hr c c2
      refine ⟨this.1,?_⟩;rw [this.2];simp only [Tr.height];omega
     ·rw [if_neg c2];have:=xy (y:=y) g1 hr c c2
      refine ⟨this.1,?_⟩;simp only [Tr.height];omega
    ·rw [if_neg (by omega),if_neg (by omega)];refine ⟨⟨g1,hr,by omega,by omega⟩,?_⟩;simp only [Tr.height];omega
   ·rw [if_neg (by omega),if_neg (by omega)];exact ⟨⟨hl,hr,b1,b2⟩,Nat.le_refl _,Nat.le_succ _⟩
   ·rw [if_neg (by omega),if_pos e];obtain ⟨g1,g2,g3⟩:=h2 hr;have hln:(Tr.node l y (r.put x)).lean=((r.put x).height:Int) - l.height:=rfl;unfold Tr.level;by_cases c:(r.put x).height=l.height+2
    ·rw [if_neg (by omega),if_pos (by omega)];by_cases c2:(Tr.node l y (r.put x)).right.lean < 0
     ·rw [if_pos c2];have:=te (y:=y) hl g1 c c2
      refine ⟨this.1,?_⟩;rw [this.2];simp only [Tr.height];omega
     ·rw [if_neg c2];have:=vM (y:=y) hl g1 c c2
      refine ⟨this.1,?_⟩;simp only [Tr.height];omega
    ·rw [if_neg (by omega),if_neg (by omega)];refine ⟨⟨hl,g1,by omega,by omega⟩,?_⟩;simp only [Tr.height];omega
theorem vg {t:Tr}(h:qe t.list) (f:List UInt8):t.get f=t.list.find? fun x=>decide (f=x.p):=by
 induction t with
 | nil=>rfl
 | node l x r h1 h2 =>
   obtain ⟨a1,a2,a3,a4,a5⟩:=uQ h;simp only [Tr.get,Tr.list,List.find?_append,List.find?_cons];rcases fA f x.p with e | e | e
   ·rw [if_pos e,h1 a1];have hne:f≠x.p:=fun q=>by rw [(gh.zero _ _).2 q] at e;omega
    rw [decide_eq_false hne]
    have:r.list.find? (fun x=>decide (f=x.p))=none:=by
     rw [List.find?_eq_none];intro b hb q;simp at q
     have h3:=lZ (show aA f x.p < 0 by omega) (a4 b hb);rw [q,k9] at h3;omega
    rw [this];simp
   ·have q:=(gh.zero _ _).1 e;rw [if_neg (by omega),if_neg (by omega),decide_eq_true q]
    have:l.list.find? (fun x=>decide (f=x.p))=none:=by
     rw [List.find?_eq_none];intro b hb q2;simp at q2
     have h3:=a3 b hb;rw [← q2,q,k9] at h3;omega
    rw [this];simp
   ·rw [if_neg (by omega),if_pos e,h2 a2];have hne:f≠x.p:=fun q=>by rw [(gh.zero _ _).2 q] at e;omega
    rw [decide_eq_false hne]
    have:l.list.find? (fun x=>decide (f=x.p))=none:=by
     rw [List.find?_eq_none];intro b hb q2;simp at q2
     have h3:=a3 b hb;rw [← q2] at h3;omega
    rw [this];simp
end Go.Proofs.YtgpnlidnbldiiaaGreat
namespace Go.Proofs.YtgpnlidnbldiiaaGreat
structure Gr where
 cs:List aV
 ls:List Lf
 rs:List (List UInt8 × Int)
def ba:Gr:=⟨[],[],[]⟩
def ex (p:List UInt8) (L:List Lf):Option Lf:=L.find? fun y=>decide (p=y.p)
def bW (ls:List Lf) (b:Int):List Ch→Option (List UInt8 × Int)
 | []=>none
 | x :: l=>match ex x.p ls with
   | some y=>if b < y.r then some (x.p,y.r) else bW ls b l
   | none=>bW ls b l
def dF (r:Int) (ls:List Lf) (l:List Ch):List Lf:=l.foldl (fun a x=>dh ⟨x.p,x.d,r,x.g⟩ a) ls
def jp (n:List UInt8) (r:Int):List (List UInt8 × Int)→List (List UInt8 × Int)
 | []=>[(n,r)]
 | x :: l=>if x.1 < n then x :: jp n r l else if x.1=n then (n,r) :: l else (n,r) :: x :: l
structure Vd where
 c:Int
 r:Int
 p:List UInt8
 d:Int
deriving DecidableEq
noncomputable def bY (b:Int) (n:List UInt8) (L:List Ch):Bool:=!(gy L==0) || (!n.isEmpty && !bu false n) || decide (b < 0)
noncomputable def dL (G:Gr) (b:Int) (n:List UInt8) (L:List Ch):Option Vd :=
 if bY b n L=true then some ⟨5,0,[],0⟩
 else if (G.cs.length:Int) < b then some ⟨4,G.cs.length,[],0⟩
 else (bW G.ls b (an L)).map fun x=>⟨3,x.2,x.1,0⟩
noncomputable def bi (G:Gr) (b:Int) (n:List UInt8) (L:List Ch):Vd:=(dL G b n L).getD ⟨2,(G.cs.length:Int)+1,[],0⟩
def el (G:Gr) (b:Int) (n:List UInt8) (L:List Ch):aV:=⟨(G.cs.length:Int)+1,b,n,an L⟩
def vp (n:List UInt8) (r:Int) (l:List (List UInt8 × Int)):List (List UInt8 × Int) :=
 match n with
 | []=>l
 | c :: m=>jp (c :: m) r l
theorem jO {n:List UInt8}(h:n≠[]) (r:Int) (l:List (List UInt8 × Int)):vp n r l=jp n r l:=by
 cases n with
 | nil=>exact absurd rfl h
 | cons c m=>rfl
def da (G:Gr) (c:aV):Gr:=⟨G.cs++[c],dF c.r G.ls c.c,vp c.n c.r G.rs⟩
noncomputable def bB (G:Gr) (b:Int) (n:List UInt8) (L:List Ch):Gr :=
 match dL G b n L with
 | some _=>G
 | none=>da G (el G b n L)
theorem bV {G:Gr}{b:Int}{n:List UInt8}{L:List Ch}{v:Vd}(h:dL G b n L=some v):bi G b n L=v∧bB G b n L=G:=by
 simp [bi,bB,h]
theorem bD {G:Gr}{b:Int}{n:List UInt8}{L:List Ch}(h:dL G b n L=none):bi G b n L=⟨2,(G.cs.length:Int)+1,[],0⟩∧bB G b n L=da G (el G b n L):=by
 simp [bi,bB,h]
theorem qV {G:Gr}{b:Int}{n:List UInt8}{L:List Ch}(h:bY b n L=true):dL G b n L=some ⟨5,0,[],0⟩:=by simp [dL,h]
theorem nf {G:Gr}{b:Int}{n:List UInt8}{L:List Ch}(h:bY b n L=false) (h2:(G.cs.length:Int) < b):dL G b n L=some ⟨4,G.cs.length,[],0⟩:=by simp [dL,h,h2]
theorem fj {G:Gr}{b:Int}{n:List UInt8}{L:List Ch}(h:bY b n L=false) (h2:¬ (G.cs.length:Int) < b):dL G b n L=(bW G.ls b (an L)).map fun x=>⟨3,x.2,x.1,0⟩:=by simp [dL,h,h2]
theorem oP {G:Gr}{b:Int}{n:List UInt8}{L:List Ch}(h:dL G b n L=none):bY b n L=false∧b≤(G.cs.length:Int)∧bW G.ls b (an L)=none:=by
 unfold dL at h;by_cases h1:bY b n L=true
 ·simp [h1] at h
 by_cases h2:(G.cs.length:Int) < b
 ·simp [h1,h2] at h
 simp [h1,h2] at h
 exact ⟨by simpa using h1,by omega,h⟩
theorem fl {b:Int}{n:List UInt8}{L:List Ch}(h:bY b n L=false):cQ L∧(n=[]∨bu false n=true)∧0≤b:=by
 simp only [bY,Bool.or_eq_false_iff,Bool.not_eq_false',beq_iff_eq,Bool.and_eq_false_iff,decide_eq_false_iff_not,List.isEmpty_iff] at h;obtain ⟨⟨h1,h2⟩,h3⟩:=h;refine ⟨kY.1 h1,h2,by omega⟩
theorem jR (G:Gr) (b:Int) (n:List UInt8) (L:List Ch):(bi G b n L).c=2↔dL G b n L=none:=by
 constructor
 ·intro h;cases he:dL G b n L with
  | none=>rfl
  | some v =>
    rw [(bV he).1] at h;unfold dL at he;split at he
    ·cases he;simp at h
    split at he
    ·cases he;simp at h
    ·cases hc:bW G.ls b (an L) with
     | none=>rw [hc] at he;simp at he
     | some x=>rw [hc] at he;simp at he;subst he;simp at h
 ·intro h;rw [(bD h).1]
def sK (l:List (List UInt8 × Int)):Prop:=l.Pairwise fun a b=>a.1 < b.1
theorem pI {n:List UInt8}{r:Int}{l:List (List UInt8 × Int)}{x:List UInt8 × Int}(h:x∈jp n r l):x=(n,r)∨x∈l:=by
 induction l with
 | nil=>simp [jp] at h;exact .inl h
 | cons y l ih =>
   simp only [jp] at h;split at h
   ·rcases List.mem_cons.1 h with h | h
    ·exact .inr (by simp [h])
    ·rcases ih h with h | h
     ·exact .inl h
     ·exact .inr (by simp [h])
   split at h
   ·rcases List.mem_cons.1 h with h | h
    ·exact .inl h
    ·exact .inr (by simp [h])
   ·rcases List.mem_cons.1 h with h | h
    ·exact .inl h
    ·exact .inr h
theorem td (n:List UInt8) (r:Int) (l:List (List UInt8 × Int)):(jp n r l).length≤l.length+1:=by
 induction l with
 | nil=>simp [jp]
 | cons y l ih =>
   simp only [jp];split
   ·simp;omega
   split
   ·simp
   ·simp
theorem BF {a b:List UInt8}(h1:¬ a < b) (h2:¬ a=b):b < a:=by
 rcases Classical.em (b < a) with h | h
 ·exact h
 ·exact absurd (List.le_antisymm (List.not_lt.1 h) (List.not_lt.1 h1)) h2
theorem Bq {n:List UInt8}{r:Int}{l:List (List UInt8 × Int)}(h:sK l):sK (jp n r l):=by
 induction l with
 | nil=>simp [jp,sK]
 | cons y l ih =>
   obtain ⟨h1,h2⟩:=List.pairwise_cons.1 h;simp only [jp];split
   ·rename_i hlt
    refine List.pairwise_cons.2 ⟨fun x hx=>?_,ih h2⟩;rcases pI hx with rfl | hx
    ·exact hlt
    ·exact h1 x hx
   split
   ·rename_i hne
    refine List.pairwise_cons.2 ⟨fun x hx=>?_,h2⟩;have:=h1 x hx
    rw [hne] at this;exact this
   ·rename_i h3 h4
    have h5:=BF h3 h4;refine List.pairwise_cons.2 ⟨fun x hx=>?_,h⟩;rcases List.mem_cons.1 hx with rfl | hx
    ·exact h5
    ·exact List.lt_trans h5 (h1 x hx)
theorem wd {p:List UInt8}{L:List Lf}{y:Lf}(h:ex p L=some y):y∈L∧y.p=p:=by
 unfold ex at h;have h1:=List.mem_of_find?_eq_some h;have h2:=List.find?_some h;simp at h2
 exact ⟨h1,h2.symm⟩
theorem kM (r:Int) (ls:List Lf) (x:Ch) (l:List Ch):dF r ls (x :: l)=dF r (dh ⟨x.p,x.d,r,x.g⟩ ls) l:=rfl
theorem yW (r:Int) (ls:List Lf) (l m:List Ch):dF r ls (l++m)=dF r (dF r ls l) m:=by simp [dF]
theorem kH (P:Lf→Prop) {r:Int}{l:List Ch}:∀ {ls:List Lf},(∀ x∈ls,P x)→(∀ x∈l,P ⟨x.p,x.d,r,x.g⟩)→∀ x∈dF r ls l,P x:=by
 induction l with
 | nil=>intro ls h _;exact h
 | cons y l ih =>
   intro ls h1 h2;rw [kM];refine ih (fun x hx=>?_) (fun x hx=>h2 x (by simp [hx]));rcases uS hx with rfl | hx
   ·exact h2 y (by simp)
   ·exact h1 x hx
theorem Ae {r:Int}{l:List Ch}:∀ {ls:List Lf},qe ls→qe (dF r ls l):=by
 induction l with
 | nil=>intro ls h;exact h
 | cons y l ih=>intro ls h;rw [kM];exact ih (uW _ _ h)
theorem gw {r:Int}{l:List Ch}:∀ {ls:List Lf},(dF r ls l).length≤ls.length+l.length:=by
 induction l with
 | nil=>intro ls;simp [dF]
 | cons y l ih=>intro ls;rw [kM];have h1:=@ih (dh ⟨y.p,y.d,r,y.g⟩ ls);have h2:=(ms ⟨y.p,y.d,r,y.g⟩ ls).1;simp;omega
structure Wf (G:Gr):Prop where
 srt:qe G.ls
 srs:sK G.rs
 path:∀ x∈G.ls,x.p.length≤64
 many:G.ls.length≤16*G.cs.length
 refs:G.rs.length≤G.cs.length
 name:∀ x∈G.rs,0 < x.1.length∧x.1.length≤24
 rev:∀ x∈G.ls,0 < x.r∧x.r≤(G.cs.length:Int)
 rrev:∀ x∈G.rs,0 < x.2∧x.2≤(G.cs.length:Int)
 com:∀ c∈G.cs,cQ c.c∧(∀ x∈c.c,x.p.length≤64)∧c.n.length≤24∧an c.c=c.c
 revs:∀ i (h:i < G.cs.length),G.cs[i].r=(i:Int)+1∧0≤G.cs[i].b∧G.cs[i].b≤(i:Int)
theorem lQ:Wf ba:=⟨List.Pairwise.nil,List.Pairwise.nil,by simp [ba],by simp [ba],by simp [ba],by simp [ba],by simp [ba],by simp [ba],by simp [ba],by simp [ba]⟩
theorem uj {L M:List Ch}(h:L.Perm M):cQ L↔cQ M:=by
 rw [gn,gn,h.length_eq];exact ⟨fun ⟨a,b,c,d⟩=>⟨a,b,fun x hx=>c x (h.mem_iff.2 hx),(h.map Ch.p).nodup_iff.1 d⟩,fun ⟨a,b,c,d⟩=>⟨a,b,fun x hx=>c x (h.mem_iff.1 hx),(h.map Ch.p).nodup_iff.2 d⟩⟩
theorem eD {L:List Ch}:cQ (an L)↔cQ L:=(uj (eE L).perm).symm
theorem gr (L:List Ch):an (an L)=an L:=(eE (an L)).symm.one (je _) (je _)
theorem fC {L:List Ch}(h:cQ L):∀ x∈L,x.p.length≤64:=fun x hx=>by
 obtain ⟨_,_,h3,_⟩:=(gn L).1 h;have:=h3 x hx
 simp only [fk,Bool.and_eq_true,decide_eq_true_eq] at this;exact oG this.1
theorem oz {n:List UInt8}(h:bu false n=true):0 < n.length∧n.length≤24:=by
 simp only [bu,Bool.and_eq_true,decide_eq_true_eq] at h;exact ⟨h.1.1,h.1.2⟩
theorem B3 {G:Gr}(h:Wf G) {b:Int}{n:List UInt8}{L:List Ch}(he:dL G b n L=none):Wf (da G (el G b n L)):=by
 obtain ⟨h1,h2,h3⟩:=oP he;obtain ⟨h4,h5,h6⟩:=fl h1;have h7:=eD.2 h4;have h8:=fC h7;have h9:(an L).length≤16:=h7.2.1
 have h10:n.length≤24:=by
  rcases h5 with rfl | h5
  ·simp
  ·exact (oz h5).2
 refine ⟨Ae h.srt,?_,?_,?_,?_,?_,?_,?_,?_,?_⟩
 ·simp only [da,el];cases n with
  | nil=>exact h.srs
  | cons c m=>exact Bq h.srs
 ·exact kH (fun x=>x.p.length≤64) h.path h8
 ·have:=@gw ((G.cs.length:Int)+1) (an L) G.ls
  have:=h.many
  simp only [da,el,List.length_append,List.length_singleton];omega
 ·have:=h.refs
  have:=td n ((G.cs.length:Int)+1) G.rs
  simp only [da,el,List.length_append,List.length_singleton];cases n with
  | nil=>simp only [vp];omega
  | cons c m=>simp only [vp];omega
 ·intro x hx;simp only [da,el] at hx;cases n with
  | nil=>exact h.name x hx
  | cons c m =>
    rcases pI hx with rfl | hx
    ·rcases h5 with h5 | h5
     ·cases h5
     ·exact oz h5
    ·exact h.name x hx
 ·refine kH (fun x=>0 < x.r∧x.r≤(((G.cs++[el G b n L]).length:Nat):Int)) (fun x hx=>?_) (fun x _=>?_)
  ·have:=h.rev x hx;simp;omega
  ·simp [el]
 ·intro x hx;simp only [da,el] at hx ⊢;simp only [List.length_append,List.length_singleton];cases n with
  | nil=>have:=h.rrev x hx;omega
  | cons c m =>
    rcases pI hx with rfl | hx
    ·simp only;omega
    ·have:=h.rrev x hx;omega
 ·intro c hc;rcases List.mem_append.1 hc with hc | hc
  ·exact h.com c hc
  ·simp at hc;subst hc
   exact ⟨h7,h8,h10,gr L⟩
 ·intro i hi;simp only [da,List.length_append,List.length_singleton] at hi;simp only [da];by_cases hlt:i < G.cs.length
  ·rw [List.getElem_append_left hlt];exact h.revs i hlt
  ·have:i=G.cs.length:=by omega
   subst this;simp [el];omega
theorem vn {G:Gr}(h:Wf G) (b:Int) (n:List UInt8) (L:List Ch):Wf (bB G b n L):=by
 cases he:dL G b n L with
 | some v=>rw [(bV he).2];exact h
 | none=>rw [(bD he).2];exact B3 h he
theorem sk (G:Gr) (b:Int) (n:List UInt8) (L:List Ch):G.cs.length≤(bB G b n L).cs.length∧(bB G b n L).cs.length≤G.cs.length+1:=by
 cases he:dL G b n L with
 | some v=>rw [(bV he).2];omega
 | none=>rw [(bD he).2];simp [da]
def bK (G:Gr) (p:List UInt8):Vd :=
 if dJ p=some p then
  match ex p G.ls with
  | some y=>if y.g=true then ⟨10,0,p,0⟩ else ⟨9,y.r,p,y.d⟩
  | none=>⟨10,0,p,0⟩
 else ⟨5,0,[],0⟩
def gk (cs:List aV) (f m:Int):List aV:=(cs.drop (f - 1).toNat).take (min m 32).toNat
noncomputable def dO (G:Gr) (c:aV):Option Gr :=
 if (bi G c.b c.n c.c).c=2∧(bi G c.b c.n c.c).r=c.r∧an c.c=c.c then some (bB G c.b c.n c.c) else none
noncomputable def bQ:Gr→List aV→Option Gr
 | G,[]=>some G
 | G,c :: l=>(dO G c).bind fun G'=>bQ G' l
theorem gL (G:Gr) (l m:List aV):bQ G (l++m)=(bQ G l).bind fun G'=>bQ G' m:=by
 induction l generalizing G with
 | nil=>rfl
 | cons c l ih =>
   simp only [List.cons_append,bQ];cases dO G c with
   | none=>rfl
   | some G'=>simpa using ih G'
theorem AG {G G':Gr}{c:aV}(h:Wf G) (hs:dO G c=some G'):Wf G'∧G'.cs=G.cs++[c]:=by
 unfold dO at hs;split at hs
 ·rename_i hc
  obtain ⟨h1,h2,h3⟩:=hc;cases hs
  have he:=(jR _ _ _ _).1 h1;refine ⟨vn h _ _ _,?_⟩;rw [(bD he).1] at h2;rw [(bD he).2];simp only [da,el,h3];simp only at h2;rw [h2]
 ·cases hs
theorem tt {G:Gr}{b:Int}{n:List UInt8}{L:List Ch}(he:dL G b n L=none):dO G (el G b n L)=some (bB G b n L):=by
 have h1:gy (an L)=gy L:=by
  obtain ⟨h1,_,_⟩:=oP he;obtain ⟨h4,_,_⟩:=fl h1;rw [kY.2 h4,kY.2 (eD.2 h4)]
 have h2:dL G b n (an L)=dL G b n L:=by
  unfold dL bY;rw [h1,gr]
 have h3:bi G b n (an L)=bi G b n L:=by unfold bi;rw [h2]
 have h4:bB G b n (an L)=bB G b n L:=by unfold bB el;rw [h2,gr]
 show (if (bi G b n (an L)).c=2∧(bi G b n (an L)).r=(G.cs.length:Int)+1∧an (an L)=an L then some (bB G b n (an L)) else none)=_;rw [if_pos ⟨by rw [h3,(bD he).1],by rw [h3,(bD he).1],gr L⟩,h4]
inductive eO:Gr→Prop
 | void:eO ba
 | land {G:Gr}(b:Int) (n:List UInt8) (L:List Ch):eO G→eO (bB G b n L)
theorem eO.wf {G:Gr}(h:eO G):Wf G:=by
 induction h with
 | void=>exact lQ
 | land b n L _ ih=>exact vn ih b n L
theorem eO.load {G:Gr}(h:eO G):bQ ba G.cs=some G:=by
 induction h with
 | void=>rfl
 | @land G b n L _ ih =>
   cases he:dL G b n L with
   | some v=>rw [(bV he).2];exact ih
   | none =>
     rw [show (bB G b n L).cs=G.cs++[el G b n L] from by rw [(bD he).2];rfl,gL,ih];show (dO G (el G b n L)).bind _=_;rw [tt he];rfl
theorem mQ:∀ {l:List aV}{G G':Gr},Wf G→bQ G l=some G'→Wf G'∧G'.cs=G.cs++l:=by
 intro l;induction l with
 | nil=>intro G G' h hl;cases hl;exact ⟨h,by simp⟩
 | cons c l ih =>
   intro G G' h hl;simp only [bQ] at hl;cases hs:dO G c with
   | none=>rw [hs] at hl;cases hl
   | some G1 =>
     rw [hs] at hl;obtain ⟨h1,h2⟩:=AG h hs;obtain ⟨h3,h4⟩:=ih h1 hl;exact ⟨h3,by rw [h4,h2];simp⟩
structure Se where
 i:Int
 q:Int
 n:List UInt8
 v:Vt
deriving DecidableEq
def sJ:Se:=⟨0,0,[],cq 0⟩
def ir (id:Int) (L:List Se):Option Nat:=L.findIdx? fun x=>decide (x.i=id)
def oS (n:List UInt8) (L:List Se):Option Nat:=L.findIdx? fun x=>decide (x.n=n)
def cn {α:Type}(L:List α) (i:Nat):List α:=L.take i++L.drop (i+1)
def fN (L:List Se) (i:Nat):List Se:=cn L i++[L.getD i sJ]
def dk (id:Int) (L:List Se):List Se:=match ir id L with
 | some i=>cn L i
 | none=>L
def gV (sz:Nat) (L:List Se):List Se:=if L.length=sz then L.drop 1 else L
def cd (sz:Nat) (n:List UInt8) (id:Int) (L:List Se):List Se:=match oS n L with
 | some i=>fN L i
 | none=>gV sz (dk id L)++[⟨id,0,n,cq 0⟩]
def eF (n:List UInt8) (id:Int) (L:List Se):Int:=match oS n L with
 | some i=>(L.getD i sJ).i
 | none=>id
def ct (id:Int) (L:List Se):List Se:=match ir id L with
 | some i=>fN L i
 | none=>L
def gN (seq:Int) (x:Se):Vt × Bool :=
 if seq < 1 then (cq 5,true) else if seq < x.q then (cq 7,true) else if seq=x.q then (x.v,true) else (cq 0,false)
def aZ (id seq:Int) (L:List Se):Vt × Bool:=match ir id L with
 | some i=>gN seq (L.getD i sJ)
 | none=>(cq 6,true)
def dz (id seq:Int) (L:List Se):Option Nat:=match ir id L with
 | some i=>if (L.getD i sJ).q < seq then some i else none
 | none=>none
def dx (seq:Int) (v:Vt) (x:Se):Se:=⟨x.i,seq,x.n,v⟩
def bZ (id seq:Int) (v:Vt) (L:List Se):List Se:=match dz id seq L with
 | some i=>L.set i (dx seq v (L.getD i sJ))
 | none=>L
theorem eo {id:Int}{L:List Se}{i:Nat}(h:ir id L=some i):∃ hi:i < L.length,L[i].i=id:=by
 unfold ir at h;rw [List.findIdx?_eq_some_iff_getElem] at h;obtain ⟨hi,h1,_⟩:=h;exact ⟨hi,by simpa using h1⟩
theorem kJ {n:List UInt8}{L:List Se}{i:Nat}(h:oS n L=some i):∃ hi:i < L.length,L[i].n=n:=by
 unfold oS at h;rw [List.findIdx?_eq_some_iff_getElem] at h;obtain ⟨hi,h1,_⟩:=h;exact ⟨hi,by simpa using h1⟩
theorem cu {α:Type}{L:List α}{i:Nat}(h:i < L.length):(cn L i).length=L.length - 1:=by
 unfold cn;simp;omega
theorem gd {α β:Type}(f:α→β) (L:List α) (i:Nat):(cn L i).map f=cn (L.map f) i:=by
 unfold cn;simp
theorem cy {L:List Se}{i:Nat}(h:i < L.length):L.getD i sJ=L[i]:=by simp [List.getD,h]
def jZ (x:Se):Prop:=x.n.length≤140737488351232∧vh x.v
theorem eI {α:Type}{L:List α}{i:Nat}{x:α}(h:x∈cn L i):x∈L:=by
 unfold cn at h;rcases List.mem_append.1 h with h | h
 ·exact List.mem_of_mem_take h
 ·exact List.mem_of_mem_drop h
theorem kh {L:List Se}{i:Nat}(hi:i < L.length) {x:Se}(h:x∈fN L i):x∈L:=by
 unfold fN at h;rcases List.mem_append.1 h with h | h
 ·exact eI h
 ·simp [List.getD,hi] at h;subst h;exact List.getElem_mem hi
theorem lk {L:List Se}{i:Nat}(hi:i < L.length):(fN L i).length=L.length:=by
 unfold fN;rw [List.length_append,cu hi];simp;omega
theorem qf (id:Int) (L:List Se):(dk id L).length≤L.length:=by
 unfold dk;cases h:ir id L with
 | none=>simp
 | some i=>obtain ⟨hi,_⟩:=eo h;simp only;rw [cu hi];omega
theorem ry {sz:Nat}{L:List Se}(h:L.length≤sz) (h1:1≤sz):(gV sz L).length+1≤sz:=by
 unfold gV;split
 ·simp;omega
 ·omega
theorem gY {sz:Nat}{n:List UInt8}{id:Int}{L:List Se}(h:L.length≤sz) (h1:1≤sz):(cd sz n id L).length≤sz:=by
 unfold cd;cases hb:oS n L with
 | some i=>obtain ⟨hi,_⟩:=kJ hb;simp only;rw [lk hi];exact h
 | none =>
   simp only
   have h2:=qf id L;have:=ry (sz:=sz) (L:=dk id L) (by omega) h1
   simp;omega
theorem gv {id:Int}{L:List Se}:(ct id L).length=L.length:=by
 unfold ct;cases hb:ir id L with
 | some i=>obtain ⟨hi,_⟩:=eo hb;simp only;rw [lk hi]
 | none=>rfl
theorem ie {id seq:Int}{v:Vt}{L:List Se}:(bZ id seq v L).length=L.length:=by
 unfold bZ;cases dz id seq L with
 | some i=>simp
 | none=>rfl
theorem rm {sz:Nat}{n:List UInt8}{id:Int}{L:List Se}(h:∀ x∈L,jZ x) (hn:n.length≤140737488351232):∀ x∈cd sz n id L,jZ x:=by
 intro x hx;unfold cd at hx;cases hb:oS n L with
 | some i=>rw [hb] at hx;obtain ⟨hi,_⟩:=kJ hb;exact h x (kh hi hx)
 | none =>
   rw [hb] at hx;rcases List.mem_append.1 hx with hx | hx
   ·have:x∈dk id L:=by
     unfold gV at hx;split at hx
     ·exact List.mem_of_mem_drop hx
     ·exact hx
    unfold dk at this;cases hc:ir id L with
    | some i=>rw [hc] at this;exact h x (eI this)
    | none=>rw [hc] at this;exact h x this
   ·simp at hx;subst hx;exact ⟨hn,pB 0⟩
theorem vx {id:Int}{L:List Se}(h:∀ x∈L,jZ x):∀ x∈ct id L,jZ x:=by
 intro x hx;unfold ct at hx;cases hb:ir id L with
 | some i=>rw [hb] at hx;obtain ⟨hi,_⟩:=eo hb;exact h x (kh hi hx)
 | none=>rw [hb] at hx;exact h x hx
theorem mI {id seq:Int}{L:List Se}{i:Nat}(h:dz id seq L=some i):∃ hi:i < L.length,L[i].i=id∧L[i].q < seq∧ir id L=some i:=by
 unfold dz at h;cases hb:ir id L with
 | none=>rw [hb] at h;cases h
 | some j =>
   rw [hb] at h;obtain ⟨hj,h1⟩:=eo hb;simp only [cy hj] at h;split at h
   ·cases h;exact ⟨hj,h1,by assumption,rfl⟩
   ·cases h
theorem st {id seq:Int}{v:Vt}{L:List Se}(h:∀ x∈L,jZ x) (hv:vh v):∀ x∈bZ id seq v L,jZ x:=by
 intro x hx;unfold bZ at hx;cases hb:dz id seq L with
 | none=>rw [hb] at hx;exact h x hx
 | some i =>
   rw [hb] at hx;obtain ⟨hi,_⟩:=mI hb;rcases List.mem_or_eq_of_mem_set hx with hx | hx
   ·exact h x hx
   ·subst hx;rw [cy hi];exact ⟨(h _ (List.getElem_mem hi)).1,hv⟩
def kz (L:List Se):Prop:=(L.map fun x=>x.i).Nodup∧(L.map fun x=>x.n).Nodup
theorem zd:kz []:=⟨by simp,by simp⟩
theorem yb {α:Type}(L:List α) (i:Nat):(cn L i).Sublist L:=by
 unfold cn
 have h:(L.take i++L.drop (i+1)).Sublist (L.take i++L.drop i):=List.Sublist.append_left (by
  rw [← List.drop_drop];exact List.drop_sublist _ _) _
 rwa [List.take_append_drop] at h
theorem zm {L M:List Se}(h:kz L) (hs:M.Sublist L):kz M:=⟨h.1.sublist (hs.map _),h.2.sublist (hs.map _)⟩
theorem sD {L:List Se}{i:Nat}(hi:i < L.length):(fN L i).Perm L:=by
 unfold fN cn;rw [cy hi]
 have h1:L=L.take i++L[i] :: L.drop (i+1):=by
  rw [← List.drop_eq_getElem_cons hi,List.take_append_drop]
 conv=>rhs;rw [h1]
 rw [List.append_assoc];refine List.Perm.append_left _ ?_;exact (List.perm_append_comm (l₁:=L.drop (i+1)) (l₂:=[L[i]]))
theorem re {L:List Se}(h:kz L) {i:Nat}(hi:i < L.length):kz (fN L i) :=
 ⟨((sD hi).map _).nodup_iff.2 h.1,((sD hi).map _).nodup_iff.2 h.2⟩
theorem zq {L:List Se}(h:kz L) (id:Int):kz (ct id L):=by
 unfold ct;cases hb:ir id L with
 | some i=>obtain ⟨hi,_⟩:=eo hb;exact re h hi
 | none=>exact h
theorem rP {id:Int}{L:List Se}(h:ir id L=none):∀ x∈L,x.i≠id:=by
 unfold ir at h;rw [List.findIdx?_eq_none_iff] at h;intro x hx;simpa using h x hx
theorem rO {n:List UInt8}{L:List Se}(h:oS n L=none):∀ x∈L,x.n≠n:=by
 unfold oS at h;rw [List.findIdx?_eq_none_iff] at h;intro x hx;simpa using h x hx
theorem yZ {L:List Se}{i:Nat}(hi:i < L.length):L=L.take i++L[i] :: L.drop (i+1):=by
 rw [← List.drop_eq_getElem_cons hi,List.take_append_drop]
theorem Bo {L:List Se}(h:kz L) (id:Int):∀ x∈dk id L,x.i≠id:=by
 unfold dk;cases hb:ir id L with
 | none=>exact rP hb
 | some i =>
   obtain ⟨hi,he⟩:=eo hb;intro x hx;have h1:=h.1;rw [yZ hi,List.map_append,List.map_cons,List.nodup_append] at h1;obtain ⟨_,h3,h4⟩:=h1;rcases List.mem_append.1 hx with hx | hx
   ·have:=h4 x.i (List.mem_map.2 ⟨x,hx,rfl⟩) L[i].i (by simp)
    rw [he] at this;exact this
   ·have h5:=(List.nodup_cons.1 h3).1;intro e;exact h5 (List.mem_map.2 ⟨x,hx,by rw [e,he]⟩)
theorem nz (id:Int) (L:List Se):(dk id L).Sublist L:=by
 unfold dk;cases ir id L with
 | none=>exact List.Sublist.refl _
 | some i=>exact yb L i
theorem vy (sz:Nat) (L:List Se):(gV sz L).Sublist L:=by
 unfold gV;split
 ·exact List.drop_sublist _ _
 ·exact List.Sublist.refl _
theorem wq {L:List Se}(h:kz L) (sz:Nat) (n:List UInt8) (id:Int):kz (cd sz n id L):=by
 unfold cd;cases hb:oS n L with
 | some i=>obtain ⟨hi,_⟩:=kJ hb;exact re h hi
 | none =>
   have hs:=(vy sz (dk id L));have h1:=zm h (hs.trans (nz id L));refine ⟨?_,?_⟩
   ·simp only [List.map_append,List.nodup_append];refine ⟨h1.1,by simp,fun a ha b hb=>?_⟩;obtain ⟨x,hx,rfl⟩:=List.mem_map.1 ha;rw [show b=id by simpa using hb];exact Bo h id x (hs.subset hx)
   ·simp only [List.map_append,List.nodup_append];refine ⟨h1.2,by simp,fun a ha b hb2=>?_⟩;obtain ⟨x,hx,rfl⟩:=List.mem_map.1 ha;rw [show b=n by simpa using hb2];exact rO hb x ((hs.trans (nz id L)).subset hx)
theorem wh {L:List Se}(h:kz L) (id seq:Int) (v:Vt):kz (bZ id seq v L):=by
 unfold bZ;cases hb:dz id seq L with
 | none=>exact h
 | some i =>
   obtain ⟨hi,_⟩:=mI hb;simp only [cy hi];refine ⟨?_,?_⟩
   ·rw [List.map_set]
    have e:(L.map fun x=>x.i).set i (dx seq v L[i]).i=L.map fun x=>x.i:=by
     have:(dx seq v L[i]).i=(L.map fun x=>x.i)[i]'(by simpa using hi):=by simp [dx]
     rw [this,List.set_getElem_self]
    rw [e];exact h.1
   ·rw [List.map_set]
    have e:(L.map fun x=>x.n).set i (dx seq v L[i]).n=L.map fun x=>x.n:=by
     have:(dx seq v L[i]).n=(L.map fun x=>x.n)[i]'(by simpa using hi):=by simp [dx]
     rw [this,List.set_getElem_self]
    rw [e];exact h.2
theorem uV {L:List Se}(h:kz L) {i j:Nat}(hi:i < L.length) (hj:j < L.length) (hne:j < i):(L[i].i==L[j].i)=false∧((L[i].n)=(L[j].n))=False:=by
 have h1:=(List.pairwise_iff_getElem.1 h.1) j i (by simpa using hj) (by simpa using hi) hne;have h2:=(List.pairwise_iff_getElem.1 h.2) j i (by simpa using hj) (by simpa using hi) hne;simp at h1 h2
 exact ⟨by simpa using fun e=>h1 e.symm,eq_false fun e=>h2 e.symm⟩
def eS (L:List Se):Prop:=kz L∧∀ x∈L,0≤x.q
theorem mP:eS []:=⟨zd,fun x hx=>by cases hx⟩
theorem wg {M:List Se}{x:Se}(h:eS M) (h0:0≤x.q) (h1:∀ y∈M,y.i≠x.i) (h2:∀ y∈M,y.n≠x.n):eS (M++[x]):=by
 refine ⟨⟨?_,?_⟩,fun y hy=>?_⟩
 ·rw [List.map_append,List.nodup_append];refine ⟨h.1.1,by simp,fun a ha b hb=>?_⟩;obtain ⟨y,hy,rfl⟩:=List.mem_map.1 ha;rw [show b=x.i by simpa using hb];exact h1 y hy
 ·rw [List.map_append,List.nodup_append];refine ⟨h.1.2,by simp,fun a ha b hb=>?_⟩;obtain ⟨y,hy,rfl⟩:=List.mem_map.1 ha;rw [show b=x.n by simpa using hb];exact h2 y hy
 ·rcases List.mem_append.1 hy with hy | hy
  ·exact h.2 y hy
  ·rw [show y=x by simpa using hy];exact h0
theorem oI {L:List Se}{j:Nat}{x:Se}(hx:L[j]?=some x) (h:eS (L.take j)) (h0:0≤x.q) (h1:∀ y∈L.take j,y.i≠x.i) (h2:∀ y∈L.take j,y.n≠x.n):eS (L.take (j+1)):=by
 obtain ⟨hj,rfl⟩:=List.getElem?_eq_some_iff.1 hx;rw [List.take_succ_eq_append_getElem hj];exact wg h h0 h1 h2
theorem fR {L:List Se}{j:Nat}{x:Se}(hx:L[j]?=some x):L.take (j+1)=L.take j++[x]:=by
 obtain ⟨hj,rfl⟩:=List.getElem?_eq_some_iff.1 hx;exact List.take_succ_eq_append_getElem hj
theorem ye {L:List Se}{j:Nat}{x:Se}(hx:L[j]?=some x) (h:x.q < 0):¬ eS L:=fun hl=>by
 have:=hl.2 x (List.mem_of_getElem? hx)
 omega
theorem Ad {L:List Se}{j k:Nat}{x y:Se}(hx:L[j]?=some x) (hy:L[k]?=some y) (hk:k < j) (h:y.i=x.i):¬ eS L:=fun hl=>by
 obtain ⟨hj,rfl⟩:=List.getElem?_eq_some_iff.1 hx;obtain ⟨hk2,rfl⟩:=List.getElem?_eq_some_iff.1 hy;have h2:=(uV hl.1 hj hk2 hk).1;simp [h] at h2
theorem zo {L:List Se}{j k:Nat}{x y:Se}(hx:L[j]?=some x) (hy:L[k]?=some y) (hk:k < j) (h:y.n=x.n):¬ eS L:=fun hl=>by
 obtain ⟨hj,rfl⟩:=List.getElem?_eq_some_iff.1 hx;obtain ⟨hk2,rfl⟩:=List.getElem?_eq_some_iff.1 hy;have h2:=(uV hl.1 hj hk2 hk).2;rw [h] at h2;simp at h2
theorem vj {L:List Se}{j k:Nat}(hj:j≤L.length) (hk:k < (L.take j).length):L[k]?=some (L.take j)[k]∧k < j:=by
 have h:k < j:=by simp at hk;omega
 refine ⟨?_,h⟩;rw [List.getElem_take,List.getElem?_eq_getElem]
theorem AF {L:List Se}{j k:Nat}{x:Se}(hx:L[j]?=some x) (h:ir x.i (L.take j)=some k):¬ eS L:=by
 obtain ⟨hk,he⟩:=eo h;obtain ⟨hj,_⟩:=List.getElem?_eq_some_iff.1 hx;obtain ⟨h1,h2⟩:=vj (Nat.le_of_lt hj) hk;exact Ad hx h1 h2 he
theorem AH {L:List Se}{j k:Nat}{x:Se}(hx:L[j]?=some x) (h:oS x.n (L.take j)=some k):¬ eS L:=by
 obtain ⟨hk,he⟩:=kJ h;obtain ⟨hj,_⟩:=List.getElem?_eq_some_iff.1 hx;obtain ⟨h1,h2⟩:=vj (Nat.le_of_lt hj) hk;exact zo hx h1 h2 he
theorem sf {L:List Se}(h:eS L) (id:Int):eS (ct id L):=by
 refine ⟨zq h.1 id,fun x hx=>?_⟩;unfold ct at hx;cases hb:ir id L with
 | some i=>rw [hb] at hx;obtain ⟨hi,_⟩:=eo hb;exact h.2 x (kh hi hx)
 | none=>rw [hb] at hx;exact h.2 x hx
theorem xG {L:List Se}(h:eS L) (sz:Nat) (n:List UInt8) (id:Int):eS (cd sz n id L):=by
 refine ⟨wq h.1 sz n id,fun x hx=>?_⟩;unfold cd at hx;cases hb:oS n L with
 | some i=>rw [hb] at hx;obtain ⟨hi,_⟩:=kJ hb;exact h.2 x (kh hi hx)
 | none =>
   rw [hb] at hx;rcases List.mem_append.1 hx with hx | hx
   ·exact h.2 x (((vy sz (dk id L)).trans (nz id L)).subset hx)
   ·simp at hx;subst hx;exact Int.le_refl 0
theorem xI {L:List Se}(h:eS L) (id seq:Int) (v:Vt):eS (bZ id seq v L):=by
 refine ⟨wh h.1 id seq v,fun x hx=>?_⟩;unfold bZ at hx;cases hb:dz id seq L with
 | none=>rw [hb] at hx;exact h.2 x hx
 | some i =>
   rw [hb] at hx;obtain ⟨hi,_,hq,_⟩:=mI hb;rcases List.mem_or_eq_of_mem_set hx with hx | hx
   ·exact h.2 x hx
   ·subst hx;have:=h.2 _ (List.getElem_mem hi)
    show 0≤seq;omega
structure Ep where
 f:Int
 m:List Int
deriving DecidableEq
def ea (m:List Int):Prop:=m≠[]∧m.Pairwise (· < ·)∧∀ x∈m,0≤x∧x < 15
instance (m:List Int):Decidable (ea m):=by unfold ea;infer_instance
def aK (m:List Int) (k:Nat):Bool:=decide ((k:Int)∈m)
def cz (S:Nat→Bool) (q:Nat) (v:Bool) (k:Nat):Bool:=if k=q then v else S k
def bc (S:Nat→Bool):List Int:=((List.range 15).filter S).map fun k:Nat=>(k:Int)
def eU (S:Nat→Bool) (q:Nat) (add:Bool):Int:=if add && S q then 9 else if !add && !S q then 8 else if bc (cz S q add)=[] then 1 else 0
theorem qU:∀ {l m:List Int},l.Pairwise (· < ·)→m.Pairwise (· < ·)→(∀ x,x∈l↔x∈m)→l=m
 | [],[],_,_,_=>rfl
 | [],y :: m,_,_,h=>by have:=(h y).2 (by simp);simp at this
 | x :: l,[],_,_,h=>by have:=(h x).1 (by simp);simp at this
 | x :: l,y :: m,hl,hm,h=>by
   rw [List.pairwise_cons] at hl hm
   have hxy:x=y:=by
    have h1:=(h x).1 (by simp);have h2:=(h y).2 (by simp);rcases List.mem_cons.1 h1 with h1 | h1
    ·exact h1
    ·rcases List.mem_cons.1 h2 with h2 | h2
     ·exact h2.symm
     ·have a:=hm.1 x h1;have b:=hl.1 y h2;omega
   subst hxy
   rw [qU hl.2 hm.2 fun z=>⟨fun hz=>by
    rcases List.mem_cons.1 ((h z).1 (List.mem_cons_of_mem _ hz)) with e | e
    ·have:=hl.1 z hz;omega
    ·exact e,fun hz=>by
    rcases List.mem_cons.1 ((h z).2 (List.mem_cons_of_mem _ hz)) with e | e
    ·have:=hm.1 z hz;omega
    ·exact e⟩]
theorem kQ (S:Nat→Bool):(bc S).Pairwise (· < ·):=by
 unfold bc;rw [List.pairwise_map];exact (List.pairwise_lt_range.filter _).imp (fun h=>by omega)
theorem eN {S:Nat→Bool}{x:Int}:x∈bc S↔∃ k:Nat,x=k∧k < 15∧S k=true:=by
 unfold bc;simp only [List.mem_map,List.mem_filter,List.mem_range];exact ⟨fun ⟨k,⟨h1,h2⟩,h3⟩=>⟨k,h3.symm,h1,h2⟩,fun ⟨k,h1,h2,h3⟩=>⟨k,⟨h2,h3⟩,h1.symm⟩⟩
theorem yz (S:Nat→Bool):(bc S).length≤15:=by
 unfold bc;rw [List.length_map];exact Nat.le_trans (List.length_filter_le _ _) (by simp)
theorem l9 {m:List Int}(h:ea m):bc (aK m)=m :=
 qU (kQ _) h.2.1 fun x=>by
  rw [eN];refine ⟨fun ⟨k,hk,_,h1⟩=>by rw [hk];simpa [aK] using h1,fun hx=>?_⟩;have:=h.2.2 x hx
  exact ⟨x.toNat,by omega,by omega,by simp only [aK,decide_eq_true_eq];rw [show ((x.toNat:Nat):Int)=x by omega];exact hx⟩
theorem ya {S:Nat→Bool}(h:bc S≠[]):ea (bc S):=⟨h,kQ S,fun x hx=>by
 obtain ⟨k,rfl,h1,_⟩:=eN.1 hx;omega⟩
theorem wE {S:Nat→Bool}{k:Nat}(h:k < 15):aK (bc S) k=S k:=by
 unfold aK;rw [Bool.eq_iff_iff,decide_eq_true_eq,eN];exact ⟨fun ⟨j,e,_,h2⟩=>by rw [show k=j by omega];exact h2,fun h1=>⟨k,rfl,h,h1⟩⟩
theorem pP {m:List Int}(h:ea m):m.length≤15:=by rw [← l9 h];exact yz _
def fH (L:List Ep) (z:Int):Nat:=(L.filter fun x=>decide (x.f≤z)).length
def im (L:List Ep) (z:Int):Nat:=fH L z - 1
def ki (L:List Ep):Prop:=L.Pairwise fun a b=>a.f < b.f
def hH (L:List Ep):Prop:=L≠[]∧ki L∧∀ x∈L,ea x.m∧0≤x.f∧x.f≤1099511627776
theorem mN (L:List Ep) (z:Int):fH L z≤L.length:=List.length_filter_le _ _
theorem lT:∀ {L:List Ep}(_:ki L) (z:Int) (i:Nat) (h:i < L.length),L[i].f≤z↔i < fH L z
 | [],_,_,i,h=>by simp at h
 | x :: L,hr,z,i,h=>by
   obtain ⟨h1,h2⟩:=List.pairwise_cons.1 hr;unfold fH;by_cases hx:x.f≤z
   ·rw [List.filter_cons_of_pos (by simpa using hx),List.length_cons];cases i with
    | zero=>simpa using hx
    | succ i =>
      have:=lT h2 z i (by simpa using h)
      simp only [List.getElem_cons_succ];rw [this];unfold fH;omega
   ·have hn:∀ y∈x :: L,¬ (decide (y.f≤z)=true):=by
     intro y hy;rcases List.mem_cons.1 hy with rfl | hy
     ·simpa using hx
     ·have:=h1 y hy
      simp;omega
    rw [List.filter_eq_nil_iff.2 hn];simp only [List.length_nil,Nat.not_lt_zero,iff_false];exact fun hle=>hn _ (List.getElem_mem h) (by simpa using hle)
theorem nH {L:List Ep}(h:L≠[]) (z:Int):im L z < L.length:=by
 have:=mN L z
 have:=List.length_pos_iff.2 h
 unfold im;omega
def xQ (L:List Ep) (z:Int):List Int:=(L.getD (im L z) ⟨0,[]⟩).m
def dZ (L:List Ep) (z:Int):List Ep:=L.drop (im L z)
def fd (L:List Ep) (k:Nat):Bool:=L.any fun x=>aK x.m k
def iQ (L:List Ep):Ep:=L.getLastD ⟨0,[]⟩
def fW (al:Int) (L:List Ep) (z q:Int) (add:Bool):Int :=
 if z < 0∨1099511627776 - al < z∨¬ (0≤q∧q < 15) then 1 else if z < (iQ L).f then 12 else eU (aK (iQ L).m) q.toNat add
def jn (al:Int) (L:List Ep) (z q:Int) (add:Bool):List Ep :=
 if fW al L z q add=0 then L++[⟨z+al,bc (cz (aK (iQ L).m) q.toNat add)⟩] else L
theorem qt {m:List Int}(h:ea m):hH [⟨0,m⟩]:=⟨by simp,List.pairwise_singleton _ _,fun x hx=>by simp at hx;subst hx;exact ⟨h,by simp,by simp⟩⟩
theorem kl {L:List Ep}(h:hH L) (z:Int):hH (dZ L z) :=
 ⟨fun e=>by
  have:=nH h.1 z
  have h2:(dZ L z).length=0:=by rw [e];rfl
  unfold dZ at h2;rw [List.length_drop] at h2;omega,h.2.1.sublist (List.drop_sublist _ _),fun x hx=>h.2.2 x (List.mem_of_mem_drop hx)⟩
theorem xF {S:Nat→Bool}{q:Nat}{add:Bool}(h:eU S q add=0):bc (cz S q add)≠[]∧S q=!add:=by
 unfold eU at h;cases hs:S q <;> cases add <;> simp [hs] at h ⊢ <;> exact h
theorem tP {al:Int}{L:List Ep}(hal:1≤al∧al≤8) (h:hH L) (z q:Int) (add:Bool):hH (jn al L z q add):=by
 unfold jn;split
 ·rename_i h0
  unfold fW at h0;split at h0
  ·cases h0
  ·rename_i h1
   split at h0
   ·cases h0
   ·rename_i h2
    obtain ⟨h3,_⟩:=xF h0;refine ⟨by simp,?_,?_⟩
    ·unfold ki;rw [List.pairwise_append];refine ⟨h.2.1,List.pairwise_singleton _ _,fun x hx y hy=>?_⟩;simp at hy
     subst hy;show x.f < z+al
     have hl:x.f≤(iQ L).f:=by
      have h5:=h.2.1;obtain ⟨i,hi,rfl⟩:=List.getElem_of_mem hx
      have e:iQ L=L[L.length - 1]'(by omega):=by
       unfold iQ;rw [List.getLastD_eq_getLast?,List.getLast?_eq_some_getLast h.1,Option.getD_some,List.getLast_eq_getElem]
      rw [e];by_cases hlt:i < L.length - 1
      ·exact Int.le_of_lt (List.pairwise_iff_getElem.1 h5 i (L.length - 1) hi (by omega) hlt)
      ·have:i=L.length - 1:=by omega
       subst this;exact Int.le_refl _
     omega
    ·intro x hx;rcases List.mem_append.1 hx with hx | hx
     ·exact h.2.2 x hx
     ·simp at hx
      subst hx;refine ⟨ya h3,?_,?_⟩ <;> simp <;> omega
 ·exact h
theorem tY:∀ {l m:List Int},l.Nodup→(∀ x∈l,x∈m)→l.length≤m.length
 | [],_,_,_=>Nat.zero_le _
 | x :: l,m,hd,hs=>by
   obtain ⟨h1,h2⟩:=List.nodup_cons.1 hd;have hx:=hs x (by simp);have ih:=tY (m:=m.erase x) h2 (fun y hy=>(List.mem_erase_of_ne (show y≠x from fun e=>h1 (by rw [← e];exact hy))).2 (hs y (by simp [hy])));rw [List.length_erase_of_mem hx] at ih;have:=List.length_pos_of_mem hx
   simp only [List.length_cons];omega
theorem xr {m:List Int}(h:ea m):m.Nodup:=h.2.1.imp (fun h=>by omega)
theorem AT {m:List Int}{q:Nat}{add:Bool}(hq:q < 15):decide ((q:Int)∈bc (cz (aK m) q add))=add:=by
 have h:(q:Int)∈bc (cz (aK m) q add)↔add=true:=by
  rw [eN];refine ⟨fun ⟨k,e,_,h⟩=>?_,fun h=>⟨q,rfl,hq,by simpa [cz] using h⟩⟩;obtain rfl:q=k:=by omega
  simpa [cz] using h
 rw [Bool.eq_iff_iff,decide_eq_true_eq];exact h
theorem ur (S:Nat→Bool):(bc S).Nodup:=(kQ S).imp (fun h=>by omega)
theorem xi {m:List Int}{q:Nat}(hm:ea m) (hq:q < 15) (h:aK m q=true):m.length=(bc (cz (aK m) q false)).length+1:=by
 have hin:(q:Int)∈m:=by simpa [aK] using h
 have hn:(q:Int) ∉ bc (cz (aK m) q false):=by
  have:=AT (m:=m) (add:=false) hq
  simpa using this
 have h1:((q:Int) :: bc (cz (aK m) q false)).Nodup:=List.nodup_cons.2 ⟨hn,ur _⟩;refine Nat.le_antisymm (tY (m:=(q:Int) :: bc (cz (aK m) q false)) (xr hm) fun x hx=>?_) (tY h1 fun x hx=>?_)
 ·by_cases e:x=q
  ·simp [e]
  ·have h2:=hm.2.2 x hx;refine List.mem_cons_of_mem _ (eN.2 ⟨x.toNat,by omega,by omega,?_⟩);have e':¬ x.toNat=q:=by omega
   simp only [cz,if_neg e',aK,decide_eq_true_eq];rw [show ((x.toNat:Nat):Int)=x by omega];exact hx
 ·rcases List.mem_cons.1 hx with rfl | hx
  ·exact hin
  ·obtain ⟨k,rfl,_,h2⟩:=eN.1 hx;by_cases e:k=q
   ·simp [cz,e] at h2
   ·simpa [cz,e,aK] using h2
theorem xj {L:List Ep}(h:L≠[]):iQ L=L[L.length - 1]'(by have:=List.length_pos_iff.2 h;omega):=by
 unfold iQ;rw [List.getLastD_eq_getLast?,List.getLast?_eq_some_getLast h,Option.getD_some,List.getLast_eq_getElem]
theorem tj (al:Int) (L:List Ep) (z q:Int) (add:Bool):(jn al L z q add).length≤L.length+1:=by
 unfold jn;split <;> simp
theorem vQ (L:List Ep) (k:Nat) (z:Int):fH L z=fH (L.take k) z+fH (L.drop k) z:=by
 unfold fH;rw [← List.length_append,← List.filter_append,List.take_append_drop]
structure Ma where
 a:Int
 g:Gr
 s:List Se
 e:List Ep
def pW (v:Vd):Vt:=⟨v.c,0,v.r,v.p,v.d,[],0⟩
def iq (G:Gr) (r:Rq):Vt :=
 if r.k=3 then ⟨8,0,G.cs.length,[],0,[],0⟩
 else if r.k=4 then pW (bK G r.p)
 else if r.k=5 then (if r.fr < 1∨r.mn < 1 then cq 5 else ⟨11,0,0,[],0,gk G.cs r.fr r.mn,0⟩)
 else cq 5
noncomputable def jI (al:Int) (m:Ma) (r:Rq):Vt :=
 if r.k=2 then pW (bi m.g r.b r.f r.c)
 else if r.k=6∨r.k=7 then (if fW al m.e m.a r.mb (decide (r.k=6))=0 then ⟨if r.k=6 then 12 else 13,0,0,[],0,[],r.mb⟩ else ⟨14,0,0,[],0,[],r.mb⟩)
 else iq m.g r
noncomputable def doG (m:Ma) (r:Rq):Gr:=if r.k=2 then bB m.g r.b r.f r.c else m.g
def nV (al:Int) (m:Ma) (r:Rq):List Ep:=if r.k=6∨r.k=7 then jn al m.e m.a r.mb (decide (r.k=6)) else m.e
def lM (m:Ma) (r:Rq):Bool:=decide (r.k≠0) && decide (r.k≠1) && !(aZ r.s r.q m.s).2
noncomputable def gg (al:Int) (m:Ma) (r:Rq):Vt :=
 if r.k=0 then cq 0
 else if r.k=1 then (if bu false r.n=true then ⟨1,eF r.n (m.a+1) m.s,0,[],0,[],0⟩ else cq 5)
 else if (aZ r.s r.q m.s).2=true then (aZ r.s r.q m.s).1 else jI al m r
noncomputable def gc (al:Int) (sz:Nat) (m:Ma) (r:Rq):List Se :=
 if r.k=0 then m.s
 else if r.k=1 then (if bu false r.n=true then cd sz r.n (m.a+1) m.s else m.s)
 else if (aZ r.s r.q m.s).2=true then ct r.s m.s else bZ r.s r.q (jI al m r) (ct r.s m.s)
noncomputable def fL (m:Ma) (r:Rq):Gr:=if lM m r=true then doG m r else m.g
def fe (al:Int) (m:Ma) (r:Rq):List Ep:=if lM m r=true then nV al m r else m.e
noncomputable def qH (al:Int) (m:Ma) (r:Rq):Vt:=if 1099511627776≤m.a then cq 5 else gg al m r
noncomputable def lH (al:Int) (sz:Nat) (m:Ma) (r:Rq):Ma :=
 if 1099511627776≤m.a then m else ⟨m.a+1,fL m r,gc al sz m r,dZ (fe al m r) (m.a+1)⟩
structure vK (sz:Nat) (m:Ma):Prop where
 a0:0≤m.a
 a1:m.a≤1099511627776
 g:eO m.g
 s:eS m.s
 sl:m.s.length≤sz
 e:hH m.e
 ec:dZ m.e m.a=m.e
theorem eO.doG {m:Ma}(h:eO m.g) (r:Rq):eO (doG m r):=by
 unfold Proofs.YtgpnlidnbldiiaaGreat.doG;split
 ·exact .land _ _ _ h
 ·exact h
theorem Cc {al:Int}(hal:1≤al∧al≤8) {m:Ma}(h:hH m.e) (r:Rq):hH (nV al m r):=by
 unfold nV;split
 ·exact tP hal h _ _ _
 ·exact h
theorem A4 {L:List Ep}(h:hH L) (z:Int):dZ (dZ L z) z=dZ L z:=by
 have h1:im (dZ L z) z=0:=by
  have hs:=vQ L (im L z) z;have hle:=mN L z;unfold im;show fH (L.drop (im L z)) z - 1=0;by_cases h0:fH L z=0
  ·have:im L z=0:=by unfold im;omega
   rw [this,List.drop_zero];omega
  ·have ht:fH (L.take (im L z)) z=im L z:=by
    unfold fH;rw [List.filter_eq_self.2,List.length_take]
    ·have:im L z=fH L z - 1:=rfl
     omega
    ·intro x hx;obtain ⟨i,hi,rfl⟩:=List.getElem_of_mem hx;rw [List.length_take] at hi;rw [List.getElem_take];have:=(lT h.2.1 z i (by omega)).2 (by have:im L z=fH L z - 1:=rfl;omega)
     simpa using this
   have:im L z=fH L z - 1:=rfl
   omega
 show (dZ L z).drop (im (dZ L z) z)=_;rw [h1,List.drop_zero]
theorem AC {al:Int}(hal:1≤al∧al≤8) {sz:Nat}(hsz:1≤sz) {m:Ma}(h:vK sz m) (r:Rq):vK sz (lH al sz m r):=by
 unfold lH;split
 ·exact h
 ·have h0:=h.a0
  have hE:hH (fe al m r):=by
   unfold fe;split
   ·exact Cc hal h.e r
   ·exact h.e
  refine ⟨by show 0≤m.a+1;omega,by show m.a+1≤_;omega,?_,?_,?_,kl hE _,A4 hE _⟩
  ·show eO (fL m r);unfold fL;split
   ·exact h.g.doG r
   ·exact h.g
  ·show eS (gc al sz m r);unfold gc;split
   ·exact h.s
   ·split
    ·split
     ·exact xG h.s _ _ _
     ·exact h.s
    ·split
     ·exact sf h.s _
     ·exact xI (sf h.s _) _ _ _
  ·show (gc al sz m r).length≤sz;unfold gc;split
   ·exact h.sl
   ·split
    ·split
     ·exact gY h.sl hsz
     ·exact h.sl
    ·split
     ·rw [gv];exact h.sl
     ·rw [ie,gv];exact h.sl
theorem qK {al:Int}{sz:Nat}{m:Ma}{r:Rq}(h:m.a < 1099511627776):lH al sz m r=⟨m.a+1,fL m r,gc al sz m r,dZ (fe al m r) (m.a+1)⟩:=by
 unfold lH;rw [if_neg (by omega)]
theorem DW {al:Int}{sz:Nat}{m:Ma}{r:Rq}(h:m.a < 1099511627776):(lH al sz m r).a=m.a+1:=by
 unfold lH;rw [if_neg (by omega)]
theorem AL {al:Int}{sz:Nat}{m:Ma}(r:Rq):(lH al sz m r).g.cs.length≤m.g.cs.length+1∧m.g.cs.length≤(lH al sz m r).g.cs.length:=by
 unfold lH;split
 ·omega
 ·show (fL m r).cs.length≤_∧_≤(fL m r).cs.length;unfold fL doG;split
  ·split
   ·have:=sk m.g r.b r.f r.c;omega
   ·omega
  ·omega
theorem Di {al:Int}{sz:Nat}{m:Ma}(r:Rq):(lH al sz m r).e.length≤m.e.length+1:=by
 have h1:(fe al m r).length≤m.e.length+1:=by
  unfold fe nV;split
  ·split
   ·exact tj _ _ _ _ _
   ·omega
  ·omega
 unfold lH;split
 ·omega
 ·show (dZ (fe al m r) (m.a+1)).length≤_;unfold dZ;rw [List.length_drop];omega
def jj (l:List Int):Ma:=⟨0,ba,[],[⟨0,l⟩]⟩
theorem zH {l:List Int}(hl:ea l) (sz:Nat):vK sz (jj l) :=
 ⟨Int.le_refl _,by show (0:Int)≤_;omega,.void,mP,Nat.zero_le _,qt hl,rfl⟩
theorem xH {L:List Se}{id seq:Int}{i:Nat}(h:ir id L=some i):aZ id seq L=gN seq (L.getD i sJ)∧ct id L=fN L i:=by
 unfold aZ ct;rw [h];exact ⟨rfl,rfl⟩
theorem zy {L:List Se}{id seq:Int}(h:ir id L=none):aZ id seq L=(cq 6,true)∧ct id L=L:=by
 unfold aZ ct;rw [h];exact ⟨rfl,rfl⟩
theorem xZ {L:List Se}{id seq:Int}(h:(aZ id seq L).2=true):(∃ x∈L,(aZ id seq L).1=x.v)∨(aZ id seq L).1=cq 5∨(aZ id seq L).1=cq 6∨(aZ id seq L).1=cq 7:=by
 cases hb:ir id L with
 | none=>rw [(zy (seq:=seq) hb).1];exact .inr (.inr (.inl rfl))
 | some i =>
   obtain ⟨hi,_⟩:=eo hb;rw [(xH (seq:=seq) hb).1,cy hi] at h ⊢;unfold gN at h ⊢;split at h
   ·rename_i c;rw [if_pos c];exact .inr (.inl rfl)
   ·rename_i c
    rw [if_neg c];split at h
    ·rename_i c;rw [if_pos c];exact .inr (.inr (.inr rfl))
    ·rename_i c
     rw [if_neg c];split at h
     ·rename_i c;rw [if_pos c];exact .inl ⟨L[i],List.getElem_mem hi,rfl⟩
     ·cases h
theorem AK {al:Int}{m:Ma}{r:Rq}(h:lM m r=true):r.k≠0∧r.k≠1∧(aZ r.s r.q m.s).2=false∧gg al m r=jI al m r:=by
 unfold lM at h;simp only [Bool.and_eq_true,decide_eq_true_eq,Bool.not_eq_true'] at h;obtain ⟨⟨h0,h1⟩,h2⟩:=h;refine ⟨h0,h1,h2,?_⟩;unfold gg;rw [if_neg h0,if_neg h1,h2,if_neg (by simp)]
theorem Az {G:Gr}(h:Wf G):∀ c∈G.cs,Cy c:=fun c hc=>by
 obtain ⟨h1,h2,h3,_⟩:=h.com c hc;exact ⟨by omega,by have:=h1.2.1;omega,fun y hy=>by have:=h2 y hy;unfold Bz;omega⟩
theorem yx {G:Gr}(h:Wf G) (r:Rq):vh (iq G r):=by
 unfold iq;split
 ·exact ⟨by simp,by simp,by simp⟩
 ·split
  ·unfold bK pW;split
   ·rename_i hn
    have hp:=oG hn;split
    ·split <;> exact ⟨by simp;omega,by simp,by simp⟩
    ·exact ⟨by simp;omega,by simp,by simp⟩
   ·exact ⟨by simp,by simp,by simp⟩
  ·split
   ·split
    ·exact pB 5
    ·refine ⟨by simp,?_,fun x hx=>Az h x (List.mem_of_mem_drop (List.mem_of_mem_take hx))⟩;show (gk G.cs r.fr r.mn).length≤_;unfold gk;rw [List.length_take];omega
   ·exact pB 5
theorem kN {ls:List Lf}{b:Int}:∀ {l:List Ch}{x:List UInt8 × Int},bW ls b l=some x→∃ y∈l,y.p=x.1
 | [],x,h=>by cases h
 | y :: l,x,h=>by
   unfold bW at h;split at h
   ·split at h
    ·cases h;exact ⟨y,by simp,rfl⟩
    ·obtain ⟨z,hz,e⟩:=kN h;exact ⟨z,by simp [hz],e⟩
   ·obtain ⟨z,hz,e⟩:=kN h;exact ⟨z,by simp [hz],e⟩
theorem yh (G:Gr) (b:Int) (n:List UInt8) (L:List Ch):vh (pW (bi G b n L)):=by
 refine ⟨?_,by simp [pW],by simp [pW]⟩;show (bi G b n L).p.length≤_;unfold bi dL;split
 ·simp
 ·rename_i hb
  split
  ·simp
  ·cases hc:bW G.ls b (an L) with
   | none=>simp
   | some x =>
     obtain ⟨y,hy,e⟩:=kN hc;obtain ⟨h4,_,_⟩:=fl (by simpa using hb:bY b n L=false);have:=fC (eD.2 h4) y hy
     simp
     rw [← e];omega
theorem sZ {al:Int}{m:Ma}(h:Wf m.g) (r:Rq):vh (jI al m r):=by
 unfold jI;split
 ·exact yh _ _ _ _
 ·split
  ·split <;> exact ⟨by simp,by simp,by simp⟩
  ·exact yx h r
end Go.Proofs.YtgpnlidnbldiiaaGreat
