/-
  Texts of this claim that are laid as one: PaPure, ChPure, CoPure, VtPure, RqPure, EnPure, Base, PaStr, App, Pure, Bits, CrcP, HiP.
-/
import Derived.Lib.Bytealg
import Derived.Lib.Strings
import Derived.Lib.Join
import Derived.WalkKit
import Derived.Deep.Draws
import Derived.OneCell
import Derived.Laws.IdiomStrings
import Derived.Lib.CutLaws
import Derived.Laws.AppendOwnNone
/-
 Texts by parts: the parts of a text, their order, what is left of them when "", "." and ".." have done their work: plain functions on lists of bytes, of no program.
-/
namespace Go.Proofs.YtakafmejllilnaaGreat
def partsB:List UInt8→List (List UInt8)
 | []=>[[]]
 | c :: t=>if c=47 then [] :: partsB t else match partsB t with
   | []=>[[c]]
   | p :: ps=>(c :: p) :: ps
theorem partsB_cons (c:UInt8) (t:List UInt8):partsB (c :: t)=if c=47 then [] :: partsB t else match partsB t with
 | []=>[[c]]
 | p :: ps=>(c :: p) :: ps:=rfl
theorem partsB_ne (l:List UInt8):partsB l≠[]:=by
 induction l with
 | nil=>simp [partsB]
 | cons c t ih =>
   unfold partsB
   split
   ·simp
   ·split <;> simp
theorem partsB_miss (l:List UInt8) (h:(47:UInt8) ∉ l):partsB l=[l]:=by
 induction l with
 | nil=>rfl
 | cons c t ih =>
   simp only [List.mem_cons,not_or] at h
   unfold partsB
   rw [if_neg (fun e=>h.1 e.symm),ih h.2]
theorem partsB_hit (a b:List UInt8) (h:(47:UInt8) ∉ a):partsB (a++47 :: b)=a :: partsB b:=by
 induction a with
 | nil=>simp [partsB]
 | cons c t ih =>
   simp only [List.mem_cons,not_or] at h
   rw [List.cons_append,partsB_cons,if_neg (fun e=>h.1 e.symm),ih h.2]
theorem partsB_free (l:List UInt8):∀ p∈partsB l,(47:UInt8) ∉ p:=by
 induction l with
 | nil=>simp [partsB]
 | cons c t ih =>
   unfold partsB
   split
   ·intro p hp;simp only [List.mem_cons] at hp;rcases hp with rfl | hp;simp;exact ih p hp
   ·rename_i hc
    split
    ·intro p hp;simp only [List.mem_singleton] at hp;subst hp;simpa using fun e=>hc e.symm
    ·rename_i q qs hq
     rw [hq] at ih
     intro p hp
     simp only [List.mem_cons] at hp
     rcases hp with rfl | hp
     ·simp only [List.mem_cons,not_or];exact ⟨fun e=>hc e.symm,ih q (by simp)⟩
     ·exact ih p (by simp [hp])
theorem split47 (l:List UInt8):(47:UInt8) ∉ l∨∃ a b,l=a++47 :: b∧(47:UInt8) ∉ a:=by
 induction l with
 | nil=>exact .inl (by simp)
 | cons c t ih =>
   by_cases hc:c=47
   ·exact .inr ⟨[],t,by simp [hc],by simp⟩
   ·rcases ih with h | ⟨a,b,rfl,h⟩
    ·exact .inl (by simp only [List.mem_cons,not_or];exact ⟨fun e=>hc e.symm,h⟩)
    ·exact .inr ⟨c :: a,b,rfl,by simp only [List.mem_cons,not_or];exact ⟨fun e=>hc e.symm,h⟩⟩
theorem partsB_app (a b:List UInt8):partsB (a++47 :: b)=partsB a++partsB b:=by
 induction a with
 | nil=>simp [partsB]
 | cons c t ih =>
   rw [List.cons_append,partsB_cons,partsB_cons,ih]
   by_cases hc:c=47
   ·simp [hc]
   ·simp only [hc,if_false]
    have:=partsB_ne t
    cases h:partsB t with
    | nil=>exact absurd h this
    | cons p ps=>simp
def joinB (ps:List (List UInt8)):List UInt8:=Lib.join ps [47]
theorem joinB_one (p:List UInt8):joinB [p]=p:=Lib.join_one p [47]
theorem joinB_cons2 (p q:List UInt8) (r:List (List UInt8)):joinB (p :: q :: r)=p++47 :: joinB (q :: r):=by
 unfold joinB
 rw [Lib.join_cons,Lib.join_cons]
 simp [Lib.joinTail]
theorem joinB_parts (l:List UInt8):joinB (partsB l)=l:=by
 induction l with
 | nil=>rfl
 | cons c t ih =>
   unfold partsB
   have hne:=partsB_ne t
   by_cases hc:c=47
   ·rw [if_pos hc]
    cases h:partsB t with
    | nil=>exact absurd h hne
    | cons p ps=>rw [joinB_cons2,← h,ih,hc];rfl
   ·rw [if_neg hc]
    cases h:partsB t with
    | nil=>exact absurd h hne
    | cons p ps =>
      rw [h] at ih
      cases ps with
      | nil=>rw [joinB_one] at ih;rw [joinB_one,ih]
      | cons q qs=>rw [joinB_cons2] at ih;rw [joinB_cons2,← ih];rfl
theorem parts_join (ps:List (List UInt8)) (hne:ps≠[]) (h:∀ p∈ps,(47:UInt8) ∉ p):partsB (joinB ps)=ps:=by
 induction ps with
 | nil=>exact absurd rfl hne
 | cons p r ih =>
   cases r with
   | nil=>rw [joinB_one,partsB_miss p (h p (by simp))]
   | cons q r =>
     rw [joinB_cons2,partsB_hit _ _ (h p (by simp)),ih (by simp) (fun x hx=>h x (by simp [hx]))]
theorem joinB_app (x y:List (List UInt8)) (hx:x≠[]) (hy:y≠[]):joinB (x++y)=joinB x++47 :: joinB y:=by
 induction x with
 | nil=>exact absurd rfl hx
 | cons p r ih =>
   cases r with
   | nil =>
     cases y with
     | nil=>exact absurd rfl hy
     | cons q y=>rw [joinB_one];exact joinB_cons2 p q y
   | cons q r =>
     rw [joinB_cons2,List.cons_append,List.cons_append,joinB_cons2,← List.cons_append,ih (by simp)];simp
theorem partsB_inj {a b:List UInt8}(h:partsB a=partsB b):a=b:=by rw [← joinB_parts a,h,joinB_parts b]
theorem partsB_length (l:List UInt8):(partsB l).length=l.countP (·=47)+1:=by
 induction l with
 | nil=>rfl
 | cons c t ih =>
   unfold partsB
   by_cases hc:c=47
   ·rw [if_pos hc,List.length_cons,ih,List.countP_cons];simp [hc]
   ·rw [if_neg hc,List.countP_cons]
    have hne:=partsB_ne t
    cases h:partsB t with
    | nil=>exact absurd h hne
    | cons p ps=>rw [h] at ih;simp only [List.length_cons] at ih ⊢;simp [hc];omega
theorem partsB_le (l:List UInt8):(partsB l).length≤l.length+1:=by
 rw [partsB_length]
 have:=List.countP_le_length (p:=fun c:UInt8=>decide (c=47)) (l:=l)
 omega
structure Ord3 {α:Type}(c:α→α→Int):Prop where
 anti:∀ a b,c b a=- c a b
 zero:∀ a b,c a b=0↔a=b
 trans:∀ a b d,c a b≤0→c b d≤0→c a d≤0
def lexC {α:Type}(c:α→α→Int):List α→List α→Int
 | [],[]=>0
 | [],_ :: _=>-1
 | _ :: _,[]=>1
 | a :: as,b :: bs=>if c a b=0 then lexC c as bs else c a b
theorem Ord3.lex {α:Type}{c:α→α→Int}(h:Ord3 c):Ord3 (lexC c):=by
 refine ⟨?_,?_,?_⟩
 ·intro a
  induction a with
  | nil=>intro b;cases b <;> simp [lexC]
  | cons x a ih =>
    intro b
    cases b with
    | nil=>simp [lexC]
    | cons y b =>
      simp only [lexC]
      rw [h.anti x y,ih b]
      by_cases hc:c x y=0
      ·simp [hc]
      ·rw [if_neg (by omega),if_neg hc]
 ·intro a
  induction a with
  | nil=>intro b;cases b <;> simp [lexC]
  | cons x a ih =>
    intro b
    cases b with
    | nil=>simp [lexC]
    | cons y b =>
      simp only [lexC,List.cons.injEq]
      by_cases hc:c x y=0
      ·rw [if_pos hc,ih b];simp [(h.zero x y).1 hc]
      ·rw [if_neg hc];constructor
       ·intro e;exact absurd e hc
       ·rintro ⟨e,_⟩;exact absurd ((h.zero x y).2 e) hc
 ·intro a
  induction a with
  | nil=>intro b d _ _;cases d <;> simp [lexC]
  | cons x a ih =>
    intro b d hab hbd
    cases b with
    | nil=>simp [lexC] at hab
    | cons y b =>
      cases d with
      | nil=>simp [lexC] at hbd
      | cons z d =>
        simp only [lexC] at hab hbd ⊢
        have hxy:c x y≤0:=by by_cases e:c x y=0 <;> simp [e] at hab <;> omega
        have hyz:c y z≤0:=by by_cases e:c y z=0 <;> simp [e] at hbd <;> omega
        have hxz:=h.trans x y z hxy hyz
        by_cases e:c x z=0
        ·rw [if_pos e]
         have:=(h.zero x z).1 e
         subst this
         have hyx:=h.anti x y
         have e1:c x y=0:=by omega
         rw [if_pos e1] at hab
         have:=(h.zero x y).1 e1
         subst this
         rw [if_pos e] at hbd
         exact ih b d hab hbd
        ·rw [if_neg e];exact hxz
theorem Ord3.strict {α:Type}{c:α→α→Int}(h:Ord3 c) {x y z:α}(h1:c x y≤0) (h2:c y z≤0):c x z≤0∧(c x z < 0∨(c x y=0∧c y z=0)):=by
 have h3:=h.trans x y z h1 h2
 refine ⟨h3,?_⟩
 by_cases e:c x z=0
 ·right
  have:=(h.zero x z).1 e
  subst this
  have:=h.anti x y
  omega
 ·left;omega
def cmp8 (a b:UInt8):Int:=if a < b then -1 else if b < a then 1 else 0
theorem ord8:Ord3 cmp8:=by
 refine ⟨?_,?_,?_⟩
 ·intro a b
  unfold cmp8
  simp only [UInt8.lt_iff_toNat_lt]
  split <;> split <;> first | rfl | omega | (split <;> first | rfl | omega) | skip
 ·intro a b
  unfold cmp8
  rw [← UInt8.toNat_inj]
  simp only [UInt8.lt_iff_toNat_lt]
  split
  ·constructor <;> intro h <;> omega
  ·split
   ·constructor <;> intro h <;> omega
   ·constructor <;> intro h <;> omega
 ·intro a b d
  unfold cmp8
  simp only [UInt8.lt_iff_toNat_lt]
  intro h1 h2
  split
  ·omega
  ·split
   ·split at h1
    ·split at h2
     ·omega
     ·split at h2 <;> omega
    ·split at h1
     ·omega
     ·split at h2
      ·omega
      ·split at h2 <;> omega
   ·omega
theorem compare_lex:∀ a b:List UInt8,Lib.compareBytes a b=lexC cmp8 a b
 | [],[]=>rfl
 | [],_ :: _=>rfl
 | _ :: _,[]=>rfl
 | x :: a,y :: b=>by
   unfold Lib.compareBytes lexC
   rw [compare_lex a b]
   unfold cmp8
   split
   ·simp
   ·split <;> simp
theorem ordB:Ord3 Lib.compareBytes:=by
 have:Lib.compareBytes=lexC cmp8:=by funext a b;exact compare_lex a b
 rw [this];exact ord8.lex
def cmpP:List (List UInt8)→List (List UInt8)→Int:=lexC Lib.compareBytes
theorem ordP:Ord3 cmpP:=ordB.lex
def cmpT (a b:List UInt8):Int:=cmpP (partsB a) (partsB b)
theorem ordT:Ord3 cmpT :=
 ⟨fun a b=>ordP.anti _ _,fun a b=>⟨fun h=>partsB_inj ((ordP.zero _ _).1 h),fun h=>by rw [h];exact (ordP.zero _ _).2 rfl⟩,fun a b d=>ordP.trans _ _ _⟩
theorem compare_vals (a b:List UInt8):Lib.compareBytes a b=-1∨Lib.compareBytes a b=0∨Lib.compareBytes a b=1:=by
 fun_induction Lib.compareBytes a b <;> simp_all
theorem cmpP_vals (a b:List (List UInt8)):cmpP a b=-1∨cmpP a b=0∨cmpP a b=1:=by
 unfold cmpP
 induction a generalizing b with
 | nil=>cases b <;> simp [lexC]
 | cons x a ih =>
   cases b with
   | nil=>simp [lexC]
   | cons y b =>
     simp only [lexC]
     split
     ·exact ih b
     ·exact compare_vals x y
theorem cmpP_prefix (x y:List (List UInt8)):cmpP x (x++y)≤0:=by
 unfold cmpP
 induction x with
 | nil=>cases y <;> simp [lexC]
 | cons p x ih =>
   simp only [List.cons_append,lexC]
   rw [if_pos ((ordB.zero p p).2 rfl)];exact ih
theorem cmpP_between (x y z:List (List UInt8)) (h1:cmpP x z≤0) (h2:cmpP z (x++y)≤0):∃ t,z=x++t:=by
 unfold cmpP at h1 h2
 induction x generalizing z with
 | nil=>exact ⟨z,rfl⟩
 | cons p x ih =>
   cases z with
   | nil=>simp [lexC] at h1
   | cons q z =>
     simp only [List.cons_append,lexC] at h1 h2
     have a1:Lib.compareBytes p q≤0:=by by_cases e:Lib.compareBytes p q=0 <;> simp [e] at h1 <;> omega
     have a2:Lib.compareBytes q p≤0:=by by_cases e:Lib.compareBytes q p=0 <;> simp [e] at h2 <;> omega
     have a3:=ordB.anti p q
     have e1:Lib.compareBytes p q=0:=by omega
     have e2:Lib.compareBytes q p=0:=by omega
     rw [if_pos e1] at h1
     rw [if_pos e2] at h2
     have:=(ordB.zero p q).1 e1
     subst this
     obtain ⟨t,rfl⟩:=ih z h1 h2
     exact ⟨t,rfl⟩
def withinB (d p:List UInt8):Bool:=d.isEmpty || p==d || (d++[47]).isPrefixOf p
theorem withinB_iff (d p:List UInt8):withinB d p=true↔d=[]∨p=d∨∃ t,p=d++47 :: t:=by
 unfold withinB
 simp only [Bool.or_eq_true,List.isEmpty_iff,beq_iff_eq,List.isPrefixOf_iff_prefix,or_assoc]
 constructor
 ·rintro (h | h | ⟨t,h⟩)
  ·exact .inl h
  ·exact .inr (.inl h)
  ·exact .inr (.inr ⟨t,by rw [← h];simp⟩)
 ·rintro (h | h | ⟨t,h⟩)
  ·exact .inl h
  ·exact .inr (.inl h)
  ·exact .inr (.inr ⟨t,by rw [h];simp⟩)
theorem within_first (d p:List UInt8) (hd:d≠[]) (h:withinB d p=true):cmpT d p≤0:=by
 rcases (withinB_iff d p).1 h with h | rfl | ⟨t,rfl⟩
 ·exact absurd h hd
 ·exact Int.le_of_eq ((ordT.zero p p).2 rfl)
 ·unfold cmpT;rw [partsB_app];exact cmpP_prefix _ _
theorem within_between (d p b:List UInt8) (h1:cmpT d p≤0) (h2:cmpT p (d++47 :: b)≤0):withinB d p=true:=by
 unfold cmpT at h1 h2
 rw [partsB_app] at h2
 obtain ⟨t,ht⟩:=cmpP_between _ _ _ h1 h2
 refine (withinB_iff d p).2 (.inr ?_)
 by_cases e:t=[]
 ·subst e;rw [List.append_nil] at ht;exact .inl (partsB_inj ht)
 ·refine .inr ⟨joinB t,?_⟩
  rw [← joinB_parts p,ht,joinB_app _ _ (partsB_ne d) e,joinB_parts]
def resB:List (List UInt8)→List (List UInt8)→Option (List (List UInt8))
 | k,[]=>some k
 | k,p :: ps=>if p=[]∨p=[46] then resB k ps else if p=[46,46] then (if k=[] then none else resB k.dropLast ps) else resB (k++[p]) ps
def letB (point:Bool) (c:UInt8):Bool:=(97≤c && c≤122) || (48≤c && c≤57) || c==95 || c==45 || (point && c==46)
def wordB (point:Bool) (l:List UInt8):Bool:=0 < l.length && l.length≤24 && l.all (letB point)
def finB (k:List (List UInt8)):Option (List UInt8) :=
 if k=[]∨8 < k.length then none else if k.all (wordB true)=true∧(joinB k).length≤64 then some (joinB k) else none
def normB (l:List UInt8):Option (List UInt8):=(resB [] (partsB l)).bind finB
def Stays (p:List UInt8):Prop:=p≠[]∧p≠[46]∧p≠[46,46]∧(47:UInt8) ∉ p
theorem resB_stays (k ps r:List (List UInt8)) (hk:∀ p∈k,Stays p) (hp:∀ p∈ps,(47:UInt8) ∉ p) (h:resB k ps=some r):∀ p∈r,Stays p:=by
 induction ps generalizing k with
 | nil=>simp only [resB,Option.some.injEq] at h;subst h;exact hk
 | cons q ps ih =>
   simp only [resB] at h
   have hps:∀ p∈ps,(47:UInt8) ∉ p:=fun p h=>hp p (by simp [h])
   split at h
   ·exact ih k hk hps h
   ·rename_i h1
    simp only [not_or] at h1
    split at h
    ·split at h
     ·cases h
     ·exact ih _ (fun p h=>hk p (List.dropLast_subset k h)) hps h
    ·rename_i h2
     refine ih _ ?_ hps h
     intro p hm
     simp only [List.mem_append,List.mem_singleton] at hm
     rcases hm with hm | rfl
     ·exact hk p hm
     ·exact ⟨h1.1,h1.2,h2,hp p (by simp)⟩
theorem resB_app (k x y:List (List UInt8)):resB k (x++y)=(resB k x).bind fun r=>resB r y:=by
 induction x generalizing k with
 | nil=>simp [resB]
 | cons p x ih =>
   simp only [List.cons_append,resB]
   split
   ·exact ih k
   ·split
    ·split
     ·rfl
     ·exact ih _
    ·exact ih _
theorem resB_same (k ps:List (List UInt8)) (h:∀ p∈ps,Stays p):resB k ps=some (k++ps):=by
 induction ps generalizing k with
 | nil=>simp [resB]
 | cons p ps ih =>
   obtain ⟨h1,h2,h3,_⟩:=h p (by simp)
   simp only [resB]
   rw [if_neg (by simp [h1,h2]),if_neg h3,ih _ (fun q hq=>h q (by simp [hq]))]
   simp
theorem resB_under (j k ps r:List (List UInt8)) (h:resB k ps=some r):resB (j++k) ps=some (j++r):=by
 induction ps generalizing k with
 | nil=>simp only [resB,Option.some.injEq] at h ⊢;rw [h]
 | cons p ps ih =>
   simp only [resB] at h ⊢
   split
   ·rename_i h1;rw [if_pos h1] at h;exact ih k h
   ·rename_i h1
    rw [if_neg h1] at h
    split
    ·rename_i h2
     rw [if_pos h2] at h
     split at h
     ·cases h
     ·rename_i h3
      rw [if_neg (by simp [h3]),List.dropLast_append_of_ne_nil h3]
      exact ih _ h
    ·rename_i h2
     rw [if_neg h2] at h
     rw [List.append_assoc];exact ih _ h
theorem finB_some {k:List (List UInt8)}{p:List UInt8}(h:finB k=some p):k≠[]∧k.length≤8∧k.all (wordB true)=true∧(joinB k).length≤64∧p=joinB k:=by
 unfold finB at h
 split at h
 ·cases h
 ·rename_i h1
  simp only [not_or] at h1
  split at h
  ·rename_i h2;simp only [Option.some.injEq] at h;exact ⟨h1.1,by omega,h2.1,h2.2,h.symm⟩
  ·cases h
theorem normB_some {l p:List UInt8}(h:normB l=some p):∃ k,resB [] (partsB l)=some k∧finB k=some p∧(∀ q∈k,Stays q)∧partsB p=k:=by
 unfold normB at h
 cases hr:resB [] (partsB l) with
 | none=>rw [hr] at h;cases h
 | some k =>
   rw [hr] at h
   have hf:finB k=some p:=h
   have hs:=resB_stays [] _ k (by simp) (partsB_free l) hr
   obtain ⟨h1,h2,h3,h4,rfl⟩:=finB_some hf
   exact ⟨k,rfl,hf,hs,parts_join k h1 (fun q hq=>(hs q hq).2.2.2)⟩
theorem normB_again {l p:List UInt8}(h:normB l=some p):normB p=some p:=by
 obtain ⟨k,h1,h2,h3,h4⟩:=normB_some h
 unfold normB
 rw [h4,resB_same _ _ h3]
 simpa using h2
theorem normB_len {l p:List UInt8}(h:normB l=some p):p.length≤64:=by
 obtain ⟨k,h1,h2,h3,h4⟩:=normB_some h
 obtain ⟨_,_,_,h5,rfl⟩:=finB_some h2
 exact h5
theorem norm_join {a b p q:List UInt8}(ha:normB a=some p) (hb:normB b=some q) :
 ∃ j k,finB j=some p∧finB k=some q∧normB ([47,46,47]++a++[47,47,46,47]++b++[47])=finB (j++k)∧normB (p++[47]++q)=finB (j++k)∧normB (a++[47,120,47,46,46,47]++[121,47,46,46])=some p
  ∧ partsB (p++[47]++q)=j++k∧joinB (j++k)=p++[47]++q:=by
 obtain ⟨j,j1,j2,j3,j4⟩:=normB_some ha
 obtain ⟨k,k1,k2,k3,k4⟩:=normB_some hb
 obtain ⟨j5,_,_,_,j6⟩:=finB_some j2
 obtain ⟨k5,_,_,_,k6⟩:=finB_some k2
 have hpq:partsB (p++[47]++q)=j++k:=by
  rw [List.append_assoc,List.singleton_append,partsB_app,j4,k4]
 refine ⟨j,k,j2,k2,?_,?_,?_,hpq,?_⟩
 ·have e:partsB ([47,46,47]++a++[47,47,46,47]++b++[47])=[[],[46]]++(partsB a++([[],[46]]++(partsB b++[[]]))):=by
   have e1:[47,46,47]++a++[47,47,46,47]++b++[47]=[]++47 :: ([46]++47 :: (a++47 :: ([]++47 :: ([46]++47 :: (b++47 :: []))))):=by simp
   rw [e1,partsB_app,partsB_app,partsB_app,partsB_app,partsB_app,partsB_app]
   rfl
  unfold normB
  rw [e]
  have h1:resB [] ([[],[46]]++(partsB a++([[],[46]]++(partsB b++[[]]))))=resB [] (partsB a++([[],[46]]++(partsB b++[[]]))):=by simp [resB]
  rw [h1,resB_app,j1]
  have h2:resB j ([[],[46]]++(partsB b++[[]]))=resB j (partsB b++[[]]):=by simp [resB]
  simp only [Option.bind]
  rw [h2,resB_app]
  have h3:=resB_under j [] _ _ k1
  rw [List.append_nil] at h3
  rw [h3]
  simp [resB]
 ·unfold normB
  rw [hpq,resB_same _ _ (by intro x hx;simp only [List.mem_append] at hx;rcases hx with h | h;exact j3 x h;exact k3 x h)]
  rfl
 ·have e1:a++[47,120,47,46,46,47]++[121,47,46,46]=a++47 :: ([120]++47 :: ([46,46]++47 :: ([121]++47 :: [46,46]))):=by simp
  unfold normB
  rw [e1,partsB_app,partsB_app,partsB_app,partsB_app,resB_app,j1]
  have h1:resB j (partsB [120]++(partsB [46,46]++(partsB [121]++partsB [46,46])))=some j:=by
   have e2:partsB [120]++(partsB [46,46]++(partsB [121]++partsB [46,46]))=[[120],[46,46],[121],[46,46]]:=rfl
   rw [e2]
   simp [resB]
  simp only [Option.bind]
  rw [h1]
  exact j2
 ·rw [joinB_app _ _ j5 k5,j6,k6];simp
theorem norm_join_not {j k:List (List UInt8)}{p q:List UInt8}(hj:finB j=some p) (hk:finB k=some q) (h:finB (j++k)=none):8 < (j++k).length∨64 < (joinB (j++k)).length:=by
 obtain ⟨j5,_,j7,_,_⟩:=finB_some hj
 obtain ⟨k5,_,k7,_,_⟩:=finB_some hk
 unfold finB at h
 split at h
 ·rename_i h1
  rcases h1 with h1 | h1
  ·simp [j5] at h1
  ·exact .inl h1
 ·split at h
  ·cases h
  ·rename_i h2
   simp only [List.all_append,j7,k7,Bool.and_self,true_and,Nat.not_le] at h2
   exact .inr h2
structure Ch where
 p:List UInt8
 g:Bool
 d:Int
deriving DecidableEq
def Ris (L:List Ch):Prop:=L.Pairwise fun a b=>cmpT a.p b.p≤0
def ofP (k:List UInt8) (L:List Ch):List Ch:=L.filter fun x=>decide (x.p=k)
def Alike (L M:List Ch):Prop:=∀ k,ofP k L=ofP k M
theorem Alike.refl (L:List Ch):Alike L L:=fun _=>rfl
theorem Alike.symm {L M:List Ch}(h:Alike L M):Alike M L:=fun k=>(h k).symm
theorem Alike.trans {L M K:List Ch}(h:Alike L M) (h2:Alike M K):Alike L K:=fun k=>(h k).trans (h2 k)
theorem ofP_app (k:List UInt8) (L M:List Ch):ofP k (L++M)=ofP k L++ofP k M:=List.filter_append ..
theorem Alike.app {L L' M M':List Ch}(h:Alike L L') (h2:Alike M M'):Alike (L++M) (L'++M'):=fun k=>by
 rw [ofP_app,ofP_app,h k,h2 k]
theorem ofP_none {k:List UInt8}{L:List Ch}(h:∀ x∈L,x.p≠k):ofP k L=[]:=by
 unfold ofP
 rw [List.filter_eq_nil_iff]
 intro x hx
 simpa using h x hx
theorem Alike.swap {U V:List Ch}(h:∀ u∈U,∀ v∈V,u.p≠v.p):Alike (U++V) (V++U):=fun k=>by
 rw [ofP_app,ofP_app]
 by_cases hu:∃ u∈U,u.p=k
 ·obtain ⟨u,hu,rfl⟩:=hu
  rw [ofP_none (L:=V) (fun v hv e=>h u hu v hv e.symm)];simp
 ·rw [ofP_none (L:=U) (fun u h2 e=>hu ⟨u,h2,e⟩)];simp
theorem Alike.mem {L M:List Ch}(h:Alike L M) (x:Ch):x∈L↔x∈M:=by
 have e:∀ K:List Ch,x∈K↔x∈ofP x.p K:=fun K=>by simp [ofP]
 rw [e L,e M,h]
theorem Alike.perm {L M:List Ch}(h:Alike L M):L.Perm M:=by
 rw [List.perm_iff_count]
 intro x
 have e:∀ K:List Ch,K.count x=(ofP x.p K).count x:=fun K=>by
  unfold ofP;rw [List.count_filter];simp
 rw [e L,e M,h]
theorem Alike.length {L M:List Ch}(h:Alike L M):L.length=M.length:=h.perm.length_eq
theorem cmpT_le {a b c:List UInt8}(h1:cmpT a b≤0) (h2:cmpT b c≤0):cmpT a c≤0:=(ordT.strict h1 h2).1
theorem cmpT_eq {a b:List UInt8}(h1:cmpT a b≤0) (h2:cmpT b a≤0):a=b:=by
 apply (ordT.zero a b).1
 have:=ordT.anti a b
 omega
theorem cmpT_refl (a:List UInt8):cmpT a a=0:=(ordT.zero a a).2 rfl
theorem cmpT_ne {a b:List UInt8}(h:cmpT a b < 0):a≠b:=fun e=>by subst e;rw [cmpT_refl] at h;omega
theorem cmpT_not {a b:List UInt8}(h:¬ cmpT a b < 0):cmpT b a≤0:=by
 have:=ordT.anti a b
 omega
theorem Alike.one {L M:List Ch}(h:Alike L M) (hL:Ris L) (hM:Ris M):L=M:=by
 induction L generalizing M with
 | nil =>
   cases M with
   | nil=>rfl
   | cons y M=>have:=h.length;simp at this
 | cons x L ih =>
   cases M with
   | nil=>have:=h.length;simp at this
   | cons y M =>
     have hx:x∈y :: M:=(h.mem x).1 (by simp)
     have hy:y∈x :: L:=(h.mem y).2 (by simp)
     have h1:cmpT y.p x.p≤0:=by
      rcases List.mem_cons.1 hx with e | hx
      ·rw [e,cmpT_refl];omega
      ·exact (List.pairwise_cons.1 hM).1 x hx
     have h2:cmpT x.p y.p≤0:=by
      rcases List.mem_cons.1 hy with e | hy
      ·rw [e,cmpT_refl];omega
      ·exact (List.pairwise_cons.1 hL).1 y hy
     have e:x.p=y.p:=cmpT_eq h2 h1
     have h3:=h x.p
     have e1:ofP x.p (x :: L)=x :: ofP x.p L:=by simp [ofP]
     have e2:ofP x.p (y :: M)=y :: ofP x.p M:=by simp [ofP,e]
     rw [e1,e2] at h3
     obtain ⟨rfl,_⟩:=List.cons.inj h3
     congr 1
     refine ih (fun k=>?_) (List.pairwise_cons.1 hL).2 (List.pairwise_cons.1 hM).2
     have h4:=h k
     by_cases hk:x.p=k
     ·subst hk;rw [e1,e2] at h4;exact (List.cons.inj h4).2
     ·simpa [ofP,hk] using h4
def seg (f:Nat→Ch) (a b:Nat):List Ch:=(List.range' a (b - a)).map f
theorem seg_length (f:Nat→Ch) (a b:Nat):(seg f a b).length=b - a:=by simp [seg]
theorem seg_get (f:Nat→Ch) (a b i:Nat) (h:i < (seg f a b).length):(seg f a b)[i]=f (a+i):=by simp [seg]
theorem seg_void (f:Nat→Ch) {a b:Nat}(h:b≤a):seg f a b=[]:=by
 unfold seg;rw [show b - a=0 by omega];rfl
theorem seg_app (f:Nat→Ch) {a m b:Nat}(h1:a≤m) (h2:m≤b):seg f a b=seg f a m++seg f m b:=by
 unfold seg
 rw [← List.map_append]
 congr 1
 rw [show b - a=(m - a)+(b - m) by omega,← List.range'_append]
 congr 2
 omega
theorem seg_same {f g:Nat→Ch}{a b:Nat}(h:∀ k,a≤k→k < b→f k=g k):seg f a b=seg g a b:=by
 unfold seg
 apply List.map_congr_left
 intro k hk
 rw [List.mem_range'_1] at hk
 exact h k hk.1 (by omega)
theorem seg_one (f:Nat→Ch) (a:Nat):seg f a (a+1)=[f a]:=by
 unfold seg;rw [show a+1 - a=1 by omega];rfl
theorem seg_shift {f g:Nat→Ch}{a b c:Nat}(h:∀ k,k < b - a→f (a+k)=g (c+k)):seg f a b=seg g c (c+(b - a)):=by
 apply List.ext_getElem
 ·rw [seg_length,seg_length];omega
 ·intro i h1 h2
  rw [seg_get,seg_get]
  rw [seg_length] at h1
  exact h i h1
theorem mem_seg {f:Nat→Ch}{a b:Nat}{x:Ch}:x∈seg f a b↔∃ k,a≤k∧k < b∧f k=x:=by
 unfold seg
 rw [List.mem_map]
 constructor
 ·rintro ⟨k,hk,rfl⟩
  rw [List.mem_range'_1] at hk
  exact ⟨k,hk.1,by omega,rfl⟩
 ·rintro ⟨k,h1,h2,rfl⟩
  exact ⟨k,by rw [List.mem_range'_1];omega,rfl⟩
def RisF (f:Nat→Ch) (a b:Nat):Prop:=∀ p q,a≤p→p < q→q < b→cmpT (f p).p (f q).p≤0
theorem RisF.ris {f:Nat→Ch}{a b:Nat}(h:RisF f a b):Ris (seg f a b):=by
 unfold Ris
 rw [List.pairwise_iff_getElem]
 intro i j hi hj hij
 rw [seg_get,seg_get]
 rw [seg_length] at hi hj
 exact h _ _ (by omega) (by omega) (by omega)
structure AlikeF (f g:Nat→Ch) (a b:Nat):Prop where
 alike:Alike (seg f a b) (seg g a b)
 same:∀ k,k < a∨b≤k→g k=f k
theorem AlikeF.refl (f:Nat→Ch) (a b:Nat):AlikeF f f a b:=⟨Alike.refl _,fun _ _=>rfl⟩
theorem AlikeF.trans {f g h:Nat→Ch}{a b:Nat}(h1:AlikeF f g a b) (h2:AlikeF g h a b):AlikeF f h a b :=
 ⟨h1.alike.trans h2.alike,fun k hk=>(h2.same k hk).trans (h1.same k hk)⟩
theorem AlikeF.wide {f g:Nat→Ch}{a b c d:Nat}(h:AlikeF f g c d) (h1:a≤c) (h2:c≤d) (h3:d≤b):AlikeF f g a b:=by
 refine ⟨?_,fun k hk=>h.same k (by omega)⟩
 rw [seg_app f h1 (by omega:c≤b),seg_app g h1 (by omega:c≤b),seg_app f h2 h3,seg_app g h2 h3]
 have e1:seg g a c=seg f a c:=seg_same fun k _ hk=>h.same k (by omega)
 have e2:seg g d b=seg f d b:=seg_same fun k hk _=>h.same k (by omega)
 rw [e1,e2]
 exact (Alike.refl _).app (h.alike.app (Alike.refl _))
theorem AlikeF.find {f g:Nat→Ch}{a b:Nat}(h:AlikeF f g a b) {k:Nat}(h1:a≤k) (h2:k < b):∃ j,a≤j∧j < b∧f j=g k :=
 mem_seg.1 ((h.alike.mem (g k)).2 (mem_seg.2 ⟨k,h1,h2,rfl⟩))
def swp (f:Nat→Ch) (i j:Nat):Nat→Ch:=fun k=>if k=i then f j else if k=j then f i else f k
theorem swp_alike (f:Nat→Ch) (j:Nat) (h:(f j).p≠(f (j+1)).p):AlikeF f (swp f j (j+1)) j (j+2):=by
 refine ⟨?_,fun k hk=>?_⟩
 ·have e:∀ g:Nat→Ch,seg g j (j+2)=[g j]++[g (j+1)]:=fun g=>by
   rw [seg_app g (by omega:j≤j+1) (by omega),seg_one,show j+2=j+1+1 from rfl,seg_one]
  rw [e,e]
  have e1:swp f j (j+1) j=f (j+1):=by simp [swp]
  have e2:swp f j (j+1) (j+1)=f j:=by simp [swp]
  rw [e1,e2]
  exact Alike.swap (by simpa using h)
 ·simp only [swp]
  rw [if_neg (by omega),if_neg (by omega)]
theorem swp_comm (f:Nat→Ch) (i j:Nat):swp f i j=swp f j i:=by
 funext k
 simp only [swp]
 by_cases h1:k=i <;> by_cases h2:k=j <;> simp_all
structure Com where
 r:Int
 b:Int
 n:List UInt8
 c:List Ch
deriving DecidableEq
structure Vt where
 c:Int
 s:Int
 r:Int
 p:List UInt8
 d:Int
 k:List Com
 m:Int
deriving DecidableEq
def vtC (c:Int):Vt:=⟨c,0,0,[],0,[],0⟩
def okC (x:Ch):Prop:=x.p.length≤140737488351232
def okK (x:Com):Prop:=x.n.length≤140737488351232∧x.c.length≤4398046510976∧∀ y∈x.c,okC y
def okV (v:Vt):Prop:=v.p.length≤140737488351232∧v.k.length≤2513169434843∧∀ x∈v.k,okK x
theorem okV_vtC (c:Int):okV (vtC c):=⟨by simp [vtC],by simp [vtC],by simp [vtC]⟩
structure Rq where
 k:Int
 n:List UInt8
 s:Int
 q:Int
 b:Int
 f:List UInt8
 c:List Ch
 p:List UInt8
 fr:Int
 mn:Int
 mb:Int
deriving DecidableEq
structure PH (σ:Type) where
 num:σ→Int→Int × σ
 upTo:σ→Int→Int→Int × σ
 text:σ→List UInt8→List UInt8 × σ
 flag:σ→Bool→Bool × σ
 word:σ→Int→Int × σ
def ch0:Ch:=⟨[],false,0⟩
def com0:Com:=⟨0,0,[],[]⟩
def rq0:Rq:=⟨0,[],0,0,0,[],[],[],0,0,0⟩
variable {σ : Type}
def chgP (P:PH σ) (s:σ) (x:Ch):Ch × σ :=
 if (P.flag (P.text s x.p).2 x.g).1=true then (⟨(P.text s x.p).1,true,0⟩,(P.flag (P.text s x.p).2 x.g).2)
 else (⟨(P.text s x.p).1,false,(P.word (P.flag (P.text s x.p).2 x.g).2 x.d).1⟩,(P.word (P.flag (P.text s x.p).2 x.g).2 x.d).2)
def mapP {α:Type}(one:σ→α→α × σ):σ→List α→List α × σ
 | s,[]=>([],s)
 | s,x :: L=>((one s x).1 :: (mapP one (one s x).2 L).1,(mapP one (one s x).2 L).2)
theorem mapP_snoc {α:Type}(one:σ→α→α × σ) (s:σ) (L:List α) (x:α) :
 mapP one s (L++[x])=((mapP one s L).1++[(one (mapP one s L).2 x).1],(one (mapP one s L).2 x).2):=by
 induction L generalizing s with
 | nil=>rfl
 | cons y L ih=>simp only [List.cons_append,mapP,ih]
theorem mapP_length {α:Type}(one:σ→α→α × σ) (s:σ) (L:List α):(mapP one s L).1.length=L.length:=by
 induction L generalizing s with
 | nil=>rfl
 | cons y L ih=>simp [mapP,ih]
def padL {α:Type}(L:List α) (z:α) (n:Nat):List α:=L.take n++List.replicate (n - L.length) z
theorem padL_length {α:Type}(L:List α) (z:α) (n:Nat):(padL L z n).length=n:=by simp [padL];omega
theorem padL_self {α:Type}(L:List α) (z:α):padL L z L.length=L:=by simp [padL]
theorem padL_nil {α:Type}(z:α) (n:Nat):padL [] z n=List.replicate n z:=by simp [padL]
theorem padL_zero {α:Type}(L:List α) (z:α):padL L z 0=[]:=by simp [padL]
def listP {α:Type}(P:PH σ) (one:σ→α→α × σ) (z:α) (s:σ) (L:List α) (most:Int):List α × σ :=
 mapP one (P.upTo s L.length most).2 (padL L z (P.upTo s L.length most).1.toNat)
def comP1 (P:PH σ) (s:σ) (x:Com):σ:=(P.text (P.num (P.num s x.r).2 x.b).2 x.n).2
def comP (P:PH σ) (s:σ) (x:Com):Com × σ :=
 (⟨(P.num s x.r).1,(P.num (P.num s x.r).2 x.b).1,(P.text (P.num (P.num s x.r).2 x.b).2 x.n).1,(listP P (chgP P) ch0 (comP1 P s x) x.c 64).1⟩,(listP P (chgP P) ch0 (comP1 P s x) x.c 64).2)
def reqK (P:PH σ) (s:σ) (r:Rq):Int:=(P.upTo s r.k 7).1
def reqS (P:PH σ) (s:σ) (r:Rq):σ:=(P.num (P.num (P.upTo s r.k 7).2 r.s).2 r.q).2
def reqA (P:PH σ) (s:σ) (r:Rq):Int:=(P.num (P.upTo s r.k 7).2 r.s).1
def reqQ (P:PH σ) (s:σ) (r:Rq):Int:=(P.num (P.num (P.upTo s r.k 7).2 r.s).2 r.q).1
def reqP (P:PH σ) (s:σ) (r:Rq):Rq × σ :=
 if reqK P s r=0 then (⟨reqK P s r,[],0,0,0,[],[],[],0,0,0⟩,(P.upTo s r.k 7).2)
 else if reqK P s r=1 then (⟨reqK P s r,(P.text (P.upTo s r.k 7).2 r.n).1,0,0,0,[],[],[],0,0,0⟩,(P.text (P.upTo s r.k 7).2 r.n).2)
 else if reqK P s r=2 then
  (⟨reqK P s r,[],reqA P s r,reqQ P s r,(P.num (reqS P s r) r.b).1,(P.text (P.num (reqS P s r) r.b).2 r.f).1,(listP P (chgP P) ch0 (P.text (P.num (reqS P s r) r.b).2 r.f).2 r.c 64).1,[],0,0,0⟩,
    (listP P (chgP P) ch0 (P.text (P.num (reqS P s r) r.b).2 r.f).2 r.c 64).2)
 else if reqK P s r=4 then (⟨reqK P s r,[],reqA P s r,reqQ P s r,0,[],[],(P.text (reqS P s r) r.p).1,0,0,0⟩,(P.text (reqS P s r) r.p).2)
 else if reqK P s r=5 then (⟨reqK P s r,[],reqA P s r,reqQ P s r,0,[],[],[],(P.num (reqS P s r) r.fr).1,(P.num (P.num (reqS P s r) r.fr).2 r.mn).1,0⟩,(P.num (P.num (reqS P s r) r.fr).2 r.mn).2)
 else if reqK P s r=6∨reqK P s r=7 then (⟨reqK P s r,[],reqA P s r,reqQ P s r,0,[],[],[],0,0,(P.num (reqS P s r) r.mb).1⟩,(P.num (reqS P s r) r.mb).2)
 else (⟨reqK P s r,[],reqA P s r,reqQ P s r,0,[],[],[],0,0,0⟩,reqS P s r)
def verK (P:PH σ) (s:σ) (v:Vt):Int:=(P.upTo s v.c 14).1
def verT (P:PH σ) (s:σ) (v:Vt):σ:=(P.upTo s v.c 14).2
def verP (P:PH σ) (s:σ) (v:Vt):Vt × σ :=
 if verK P s v=1 then (⟨verK P s v,(P.num (verT P s v) v.s).1,0,[],0,[],0⟩,(P.num (verT P s v) v.s).2)
 else if verK P s v=2∨verK P s v=4∨verK P s v=8 then (⟨verK P s v,0,(P.num (verT P s v) v.r).1,[],0,[],0⟩,(P.num (verT P s v) v.r).2)
 else if verK P s v=3 then (⟨verK P s v,0,(P.num (P.text (verT P s v) v.p).2 v.r).1,(P.text (verT P s v) v.p).1,0,[],0⟩,(P.num (P.text (verT P s v) v.p).2 v.r).2)
 else if verK P s v=9 then (⟨verK P s v,0,(P.num (P.word (P.text (verT P s v) v.p).2 v.d).2 v.r).1,(P.text (verT P s v) v.p).1,(P.word (P.text (verT P s v) v.p).2 v.d).1,[],0⟩,(P.num (P.word (P.text (verT P s v) v.p).2 v.d).2 v.r).2)
 else if verK P s v=10 then (⟨verK P s v,0,0,(P.text (verT P s v) v.p).1,0,[],0⟩,(P.text (verT P s v) v.p).2)
 else if verK P s v=11 then (⟨verK P s v,0,0,[],0,(listP P (comP P) com0 (verT P s v) v.k 32).1,0⟩,(listP P (comP P) com0 (verT P s v) v.k 32).2)
 else if verK P s v=12∨verK P s v=13∨verK P s v=14 then (⟨verK P s v,0,0,[],0,[],(P.num (verT P s v) v.m).1⟩,(P.num (verT P s v) v.m).2)
 else (⟨verK P s v,0,0,[],0,[],0⟩,verT P s v)
end Go.Proofs.YtakafmejllilnaaGreat
namespace Go.Proofs.YtakafmejllilnaaGreat
open Go.RowKit
structure Kept (S:List Nat) (w w':World):Prop where
 os:w'.os=w.os
 tape:w'.tape=w.tape
 output:w'.output=w.output
 size:w.heap.size≤w'.heap.size
 block:∀ k,k < w.heap.size→k ∉ S→w'.heap[k]?=w.heap[k]?
theorem Kept.refl (S:List Nat) (w:World):Kept S w w:=⟨rfl,rfl,rfl,Nat.le_refl _,fun _ _ _=>rfl⟩
theorem Kept.trans {S T:List Nat}{a b c:World}(h:Kept S a b) (k:Kept T b c) (hT:∀ i∈T,i∈S∨a.heap.size≤i):Kept S a c :=
 ⟨k.os.trans h.os,k.tape.trans h.tape,k.output.trans h.output,Nat.le_trans h.size k.size,fun i hi hS=>by
  rw [k.block i (Nat.lt_of_lt_of_le hi h.size) (fun hm=>by rcases hT i hm with h1 | h1;exact hS h1;omega),h.block i hi hS]⟩
theorem Kept.mono {S T:List Nat}{a b:World}(h:Kept S a b) (hT:∀ i∈S,i∈T∨a.heap.size≤i):Kept T a b :=
 (Kept.refl T a).trans h hT
theorem Kept.drew {S:List Nat}{a w:World}(h:Kept S a w):Kept S a w.drew:=⟨h.os,h.tape,h.output,h.size,h.block⟩
theorem Kept.alloc {S:List Nat}{a w:World}(h:Kept S a w) (o:Obj):Kept S a (w.alloc o) :=
 h.trans (T:=[]) ⟨rfl,rfl,rfl,by simp,fun k hk _=>Below.heap_alloc _ _ _ hk⟩ (by simp)
theorem Kept.setCell {S:List Nat}{a w:World}(h:Kept S a w) {p:Addr}(hp:p.block∈S∨a.heap.size≤p.block) (u:Value):Kept S a (w.setCell p u) :=
 h.trans (T:=[p.block]) ⟨rfl,rfl,rfl,by simp [World.setCell],fun k _ hk=>Below.heap_setCell _ _ _ _ (by simpa using hk)⟩ (by simpa using hp)
theorem Kept.grown {S:List Nat}{a w w':World}{row:Option Nat}(h:Kept S a w) (hg:w.grownBy w' row) (hr:∀ k,row=some k→k∈S∨a.heap.size≤k):Kept S a w' :=
 ⟨hg.os.trans h.os,hg.tape.trans h.tape,hg.output.trans h.output,Nat.le_trans h.size hg.size,fun i hi hS=>by
  rw [hg.block i (Nat.lt_of_lt_of_le hi h.size) (fun e=>by rcases hr i e.symm with h1 | h1;exact hS h1;omega),h.block i hi hS]⟩
theorem Kept.drewN {S:List Nat}{a w:World}(h:Kept S a w) (n:Nat):Kept S a (w.drewN n):=⟨h.os,h.tape,h.output,h.size,h.block⟩
theorem Kept.below {S:List Nat}{a w:World}(h:Kept S a w) {B:Nat}(hB:B≤a.heap.size) (hS:∀ i∈S,B≤i):Below B a w :=
 ⟨h.os,h.tape,h.output,h.size,fun k hk=>h.block k (by omega) (fun hm=>by have:=hS k hm;omega)⟩
theorem Kept.of_below {S:List Nat}{a w:World}(h:Below a.heap.size a w):Kept S a w :=
 ⟨h.os,h.tape,h.output,h.size,fun k hk _=>h.block k hk⟩
theorem Kept.cell {S:List Nat}{a w:World}(h:Kept S a w) {p:Addr}{v:Value}(hc:a.cell? p=some v) (hS:p.block ∉ S):w.cell? p=some v:=by
 have hb:p.block < a.heap.size:=by
  unfold World.cell? at hc
  by_cases hlt:p.block < a.heap.size
  ·exact hlt
  ·rw [Array.getElem?_eq_none (by omega)] at hc;simp at hc
 rw [← hc];exact World.cell?_of_block (w:=a) (h.block _ hb hS)
theorem Kept.at {S:List Nat}{a w:World}(h:Kept S a w) {k:Nat}{o:Obj}(hc:a.heap[k]?=some o) (hS:k ∉ S):w.heap[k]?=some o:=by
 have hb:k < a.heap.size:=by
  by_cases hlt:k < a.heap.size
  ·exact hlt
  ·rw [Array.getElem?_eq_none (by omega)] at hc;simp at hc
 rw [← hc];exact h.block _ hb hS
theorem lt_of_at {w:World}{k:Nat}{o:Obj}(hc:w.heap[k]?=some o):k < w.heap.size:=by
 by_cases hlt:k < w.heap.size
 ·exact hlt
 ·rw [Array.getElem?_eq_none (by omega)] at hc;simp at hc
theorem Kept.ownsRow {S:List Nat}{a w:World}(h:Kept S a w) {base:Nat}{e:TypeId}{size:Nat}{v:Value}{n:Nat}{xs:List Value}
 (ho:a.ownsRow base e size v n xs) (hS:∀ k,v.ownBlock=some k→k ∉ S):w.ownsRow base e size v n xs:=by
 obtain ⟨h1,h2⟩:=ho
 refine ⟨h1,?_⟩
 rcases h2 with h2 | ⟨g,cap,cur,hv,hg,hh,r⟩
 ·exact .inl h2
 ·exact .inr ⟨g,cap,cur,hv,hg,h.at hh (hS g (by rw [hv];rfl)),r⟩
def Sl (w:World) (ao:Option Addr) (n c:Nat) (l:List Int):Prop :=
 l.length=n∧n≤c∧c≤maxLen∧(ao=none→c=0)∧∀ i,i < n→∃ b o,ao=some ⟨b,o,none⟩∧w.cell? ⟨b,o+i,none⟩=some (.int .u8 (l.getD i 0))
def blk:Option Addr→List Nat
 | some a=>[a.block]
 | none=>[]
theorem Sl.nil (w:World):Sl w none 0 0 []:=⟨rfl,Nat.le_refl _,Nat.zero_le _,fun _=>rfl,fun i hi=>by omega⟩
theorem Sl.kept {S:List Nat}{a w:World}(h:Kept S a w) {ao:Option Addr}{n c:Nat}{l:List Int}(hs:Sl a ao n c l) (hS:∀ k∈blk ao,k ∉ S):Sl w ao n c l:=by
 obtain ⟨h1,h2,h3,h4,h5⟩:=hs
 refine ⟨h1,h2,h3,h4,fun i hi=>?_⟩
 obtain ⟨b,o,e,hc⟩:=h5 i hi
 exact ⟨b,o,e,h.cell hc (hS b (by rw [e];simp [blk]))⟩
theorem Sl.some {w:World}{ao:Option Addr}{n c:Nat}{l:List Int}(hs:Sl w ao n c l) (hn:0 < n) :
 ∃ b o,ao=some ⟨b,o,none⟩∧∀ i,i < n→w.cell? ⟨b,o+i,none⟩=some (.int .u8 (l.getD i 0)):=by
 obtain ⟨h1,h2,h3,h4,h5⟩:=hs
 obtain ⟨b,o,e,_⟩:=h5 0 hn
 refine ⟨b,o,e,fun i hi=>?_⟩
 obtain ⟨b',o',e',hc⟩:=h5 i hi
 rw [e] at e';cases e';exact hc
theorem Sl.of_owns {w:World}{base e:Nat}{v:Value}{l:List Int}(ho:w.ownsRow base e 1 v l.length (l.map (Value.int .u8))) :
 ∃ ao c,v=.slice ao l.length c∧Sl w ao l.length c l∧(∀ k∈blk ao,base≤k∧k < w.heap.size∧v.ownBlock=Option.some k):=by
 obtain ⟨h1,h2⟩:=ho
 rcases h2 with ⟨hv,hn⟩ | ⟨g,cap,cur,hv,hg,hh,h3,h4,h5,h6⟩
 ·refine ⟨none,0,by rw [hv,hn],?_,by simp [blk]⟩
  have:l=[]:=by simpa using hn
  subst this;exact Sl.nil w
 ·refine ⟨Option.some ⟨g,0,none⟩,cap,hv,⟨rfl,h3,h4,by simp,fun i hi=>⟨g,0,rfl,?_⟩⟩,?_⟩
  ·have hl:l.length*1=l.length:=by omega
   have:w.cell? ⟨g,i,none⟩=(l.map (Value.int .u8))[i]?:=World.ownsRow.cellAt (base:=base) (e:=e) (size:=1) (n:=l.length) (cap:=cap) ⟨h1,.inr ⟨g,cap,cur,rfl,hg,hh,h3,h4,h5,h6⟩⟩ i (by omega)
   rw [Nat.zero_add,this]
   simp [List.getD,List.getElem?_eq_getElem hi]
  ·intro k hk
   simp [blk] at hk;subst hk
   exact ⟨hg,lt_of_at hh,by rw [hv];rfl⟩
theorem Sl.take {w:World}{ao:Option Addr}{n c:Nat}{l:List Int}(hs:Sl w ao n c l) {k:Nat}(hk:k≤n):Sl w ao k c (l.take k):=by
 obtain ⟨h1,h2,h3,h4,h5⟩:=hs
 refine ⟨by simp;omega,by omega,h3,h4,fun i hi=>?_⟩
 obtain ⟨b,o,e,hc⟩:=h5 i (by omega)
 exact ⟨b,o,e,by rw [hc];simp [List.getD,hi]⟩
theorem Sl.drop {w:World}{ao:Option Addr}{n c:Nat}{l:List Int}(hs:Sl w ao n c l) {k:Nat}(hk:k≤n):Sl w (Option.map (fun x=>x.add k) ao) (n - k) (c - k) (l.drop k):=by
 obtain ⟨h1,h2,h3,h4,h5⟩:=hs
 refine ⟨by simp;omega,by omega,by omega,fun h=>?_,fun i hi=>?_⟩
 ·cases ao with
  | none=>have:=h4 rfl;omega
  | some a=>simp at h
 obtain ⟨b,o,e,hc⟩:=h5 (k+i) (by omega)
 refine ⟨b,o+k,by rw [e];by_cases hk0:k=0 <;> simp [Addr.add,hk0],?_⟩
 rw [Nat.add_assoc,hc]
 simp [List.getD,List.getElem?_drop]
theorem Sl.drop_all {w:World}{ao:Option Addr}{n c:Nat}{l:List Int}(hs:Sl w ao n c l) {k:Nat}(hk:n≤k):Sl w ao (n - k) 0 (l.drop k):=by
 obtain ⟨h1,h2,h3,h4,h5⟩:=hs
 refine ⟨by simp;omega,by omega,Nat.zero_le _,fun _=>rfl,fun i hi=>by omega⟩
theorem blk_add (ao:Option Addr) (k:Nat):blk (Option.map (fun x=>x.add k) ao)=blk ao:=by
 cases ao with
 | none=>rfl
 | some a=>by_cases hk0:k=0 <;> simp [blk,Addr.add,hk0]
theorem Sl.kept' {S:List Nat}{a w:World}(h:Kept S a w) {ao:Option Addr}{n c:Nat}{l:List Int}(hs:Sl a ao n c l) (hS:0 < n→∀ k∈blk ao,k ∉ S):Sl w ao n c l:=by
 obtain ⟨h1,h2,h3,h4,h5⟩:=hs
 refine ⟨h1,h2,h3,h4,fun i hi=>?_⟩
 obtain ⟨b,o,e,hc⟩:=h5 i hi
 exact ⟨b,o,e,h.cell hc (hS (by omega) b (by rw [e];simp [blk]))⟩
theorem Sl.lt {w:World}{ao:Option Addr}{n c:Nat}{l:List Int}(hs:Sl w ao n c l) (hn:0 < n):∀ k∈blk ao,k < w.heap.size:=by
 obtain ⟨b,o,rfl,hc⟩:=hs.some hn
 intro k hk
 simp [blk] at hk
 subst hk
 have h0:=hc 0 hn
 unfold World.cell? at h0
 by_cases hlt:k < w.heap.size
 ·exact hlt
 ·rw [show w.heap[(⟨k,o+0,none⟩:Addr).block]?=none from Array.getElem?_eq_none (by show w.heap.size≤k;omega)] at h0;simp at h0
theorem Sl.of_owns' {w:World}{base e:Nat}{v:Value}{l:List Int}(ho:w.ownsRow base e 1 v l.length (l.map (Value.int .u8))) :
 ∃ ao n c,v=.slice ao n c∧Sl w ao n c l∧(∀ k∈blk ao,base≤k∧k < w.heap.size∧v.ownBlock=Option.some k):=by
 obtain ⟨ao,c,h1,h2,h3⟩:=Sl.of_owns ho
 exact ⟨ao,l.length,c,h1,h2,h3⟩
theorem Sl.cut {w:World}{ao:Option Addr}{n c:Nat}{l:List Int}(hs:Sl w ao n c l) {k m:Nat}(hk:0 < k) (h:k≤m) (hm:m≤n):Sl w (Option.map (fun x=>({ block:=x.block,off:=x.off+k }:Addr)) ao) (m - k) (c - k) ((l.take m).drop k):=by
 have h1:=(hs.take hm).drop h
 have e:(fun x:Addr=>x.add k)=fun x=>({ block:=x.block,off:=x.off+k }:Addr):=by
  funext x
  have:k≠0:=by omega
  simp [Addr.add,this]
 rw [e] at h1
 exact h1
theorem blk_cut (ao:Option Addr) (k:Nat):blk (Option.map (fun x=>({ block:=x.block,off:=x.off+k }:Addr)) ao)=blk ao:=by
 cases ao <;> simp [blk]
theorem Sl.lit {w:World}{vs:Array Value}{t:TypeId}{mk:Nat × Nat}{n:Nat}{l:List Int}(hn:l.length=n) (h:vs=(l.map (Value.int .u8)).toArray) (hb:n≤maxLen):Sl (w.alloc (.cells vs t mk)) (Option.some ⟨w.heap.size,0,none⟩) n n l:=by
 subst hn;subst h
 refine ⟨rfl,Nat.le_refl _,hb,by simp,fun i hi=>⟨w.heap.size,0,rfl,?_⟩⟩
 rw [World.cell?_alloc_mark]
 simp [List.getD,List.getElem?_eq_getElem hi]
def str (l:List UInt8):ByteArray:=⟨l.toArray⟩
theorem str_data (l:List UInt8):(str l).data.toList=l:=by simp [str]
theorem str_size (l:List UInt8):(str l).size=l.length:=by rw [Lib.size_eq,str_data]
theorem str_of (s:ByteArray):s=str s.data.toList:=by cases s;simp [str]
theorem str_inj {a b:List UInt8}(h:str a=str b):a=b:=by rw [← str_data a,h,str_data]
theorem str_nil:str []=ByteArray.empty:=rfl
variable {P : Program} (w : World)
theorem append_fresh (base:Nat) (t ty e:TypeId) (i:TypeInfo) (z:Value) (size bytes:Nat) (ht:P.underlying t=some (.slice e)) (hi:P.info? e=some i) (hz:i.zero=some z)
 (hsize:i.size=size) (hby:i.bytes=bytes) (hzs:z.cells.size=size) (hsz:0 < size)
 (v:Value) (n:Nat) (xs:List Value) (hown:w.ownsRow base e size v n xs)
 (a:Addr) (m c:Nat) (news:List Value) (hl:news.length=m*size) (hnews:∀ j u,news[j]?=some u→w.cell? (a.add j)=some u) (h1:∀ u∈news,u.oneCell'=true)
 (h63:n+m≤maxLen) (hbytes:(n+m)*bytes≤140737488355328)
 (v':Value) (w':World) (hr:(Builtin.append_ #[t,t] ty #[v,.slice (some a) m c]).run P w=.ok v' w') :
 ∀ k,v'.ownBlock=some k→v.ownBlock=some k∨w.heap.size≤k:=by
 intro k hk
 rcases hown.2 with ⟨rfl,rfl⟩ | ⟨g,cap,cur,rfl,hbg,hg,hnc,hcm,hcs,htake⟩
 ·have hx:xs=[]:=List.eq_nil_of_length_eq_zero (by simpa using hown.1)
  subst hx
  obtain ⟨v2,w2,hr2,ho2,_⟩:=run_append_own (P:=P) w w.heap.size t ty e i z size bytes ht hi hz hsize hby hzs hsz _ _ _ (World.ownsRow_nil w w.heap.size e size) a m c news hl hnews h1 h63 hbytes (Nat.le_refl _)
  rw [hr] at hr2
  obtain ⟨rfl,rfl⟩:v'=v2∧w'=w2:=by simpa using hr2
  exact .inr (ho2.lt k hk).1
 ·subst hsize
  by_cases hroom:n+m≤cap
  ·have hfit:n*i.size+news.length≤cur.size:=by rw [hl,hcs,← Nat.add_mul];exact Nat.mul_le_mul_right _ hroom
   have hr2:=run_append_room (P:=P) w t ty e i ht hi g n cap cur hg a m c news hl hnews h1 hroom hfit
   rw [hr2] at hr
   have:v'=.slice (some ⟨g,0,none⟩) (n+m) cap:=by simp at hr;exact hr.1.symm
   subst this
   exact .inl hk
  ·have hr2:=run_append_grow (P:=P) w t ty e i z ht hi hz ⟨g,0,none⟩ n cap xs hown.1 (hown.cells (g:=g) rfl) a m c news hl hnews (by omega) (by unfold maxLen at h63;omega) (growslice_fits (by omega) (by rw [hby];exact hbytes))
   rw [hr2] at hr
   have:v'.ownBlock=some w.heap.size:=by simp at hr;rw [← hr.1];rfl
   rw [this] at hk;cases hk
   exact .inr (Nat.le_refl _)
theorem wpList_append2 {ops:Array Oper}{rest:List Oper}{o:Oper}{a:Act}{Q:Exit→Act→World→Prop}(hgd:o.guard=none) (s x:Operand) (t:TypeId)
 (ho:o.op=.call { callee:=.builtin .append,args:=#[s,x],argTypes:=#[t,t] })
 (e:TypeId) (i:TypeInfo) (z:Value) (size bytes:Nat) (ht:P.underlying t=some (.slice e)) (hi:P.info? e=some i) (hz:i.zero=some z)
 (hsize:i.size=size) (hby:i.bytes=bytes) (hzs:z.cells.size=size) (hsz:0 < size)
 (v:Value) (n:Nat) (xs:List Value) (hs:a.eval s=v) (hown:w.ownsRow 0 e size v n xs)
 (ad:Addr) (m c:Nat) (news:List Value) (hx:a.eval x=.slice (some ad) m c) (hl:news.length=m*size) (hnews:∀ j u,news[j]?=some u→w.cell? (ad.add j)=some u) (h1:∀ u∈news,u.oneCell'=true)
 (h63:n+m≤maxLen) (hbytes:(n+m)*bytes≤140737488355328)
 (h:∀ v' w',w'.ownsRow 0 e size v' (n+m) (xs++news)→w.grownBy w' v.ownBlock→(∀ k,v'.ownBlock=some k→v.ownBlock=some k∨w.heap.size≤k)→wpList P ops Q rest (a.put o.dst v') w'):wpList P ops Q (o :: rest) a w :=
 wpList_plain hgd fun _ hK=>by
  obtain ⟨v',w',hr,h2,h3,h4⟩:=run_append_own (P:=P) w 0 t o.type e i z size bytes ht hi hz hsize hby hzs hsz v n xs hown ad m c news hl hnews h1 h63 hbytes (Nat.zero_le _)
  have h5:=append_fresh (P:=P) w 0 t o.type e i z size bytes ht hi hz hsize hby hzs hsz v n xs hown ad m c news hl hnews h1 h63 hbytes v' w' hr
  unfold Oper.wp execOp
  simp only [ho,resolve,invoke,builtin,Sem.run_bind,Sem.run_pure,Result.andThen_ok,List.map_toArray,List.map_cons,List.map_nil,hs,hx,hr]
  exact hK _ _ (h v' w' h2 h3 h5)
end Go.Proofs.YtakafmejllilnaaGreat
namespace Go.Proofs.YtakafmejllilnaaGreat
def rdN:Nat→Nat→Int→List Int→Int × Int × List Int
 | 0,_,_,_=>(4,0,[])
 | _+1,_,_,[]=>(2,0,[])
 | f+1,i,acc,d :: l =>
   if 128≤d then rdN f (i+1) (acc+d % 128*2 ^ (7*i)) l
   else if (d=0∧0 < i)∨1099511627776 < acc+d % 128*2 ^ (7*i) then (4,0,[])
   else (0,acc+d % 128*2 ^ (7*i),l)
def rdNum (l:List Int):Int × Int × List Int:=rdN 6 0 0 l
def Oct (l:List Int):Prop:=∀ x∈l,0≤x∧x < 256
theorem Oct.tail {d:Int}{l:List Int}(h:Oct (d :: l)):Oct l:=fun x hx=>h x (List.mem_cons_of_mem _ hx)
theorem Oct.head {d:Int}{l:List Int}(h:Oct (d :: l)):0≤d∧d < 256:=h d (List.mem_cons_self ..)
theorem Oct.drop {l:List Int}(h:Oct l) (k:Nat):Oct (l.drop k):=fun x hx=>h x (List.mem_of_mem_drop hx)
theorem Oct.take {l:List Int}(h:Oct l) (k:Nat):Oct (l.take k):=fun x hx=>h x (List.mem_of_mem_take hx)
def enc:Nat→Int→List Int
 | 0,n=>[n]
 | f+1,n=>if 128≤n then (n % 128+128) :: enc f (n / 128) else [n]
def encNum (n:Int):List Int:=enc 5 n
theorem enc_small (f:Nat) (n:Int) (h:n < 128):enc f n=[n]:=by
 cases f with
 | zero=>rfl
 | succ f=>rw [enc,if_neg (by omega)]
theorem enc_great (f:Nat) (n:Int) (h:128≤n):enc (f+1) n=(n % 128+128) :: enc f (n / 128):=by
 rw [enc,if_pos h]
theorem enc_length (f:Nat) (n:Int):(enc f n).length≤f+1:=by
 induction f generalizing n with
 | zero=>simp [enc]
 | succ f ih =>
   rw [enc]
   split
   ·have:=ih (n / 128);simp;omega
   ·simp
theorem enc_oct (f:Nat) (n:Int) (h0:0≤n) (h1:n < 128 ^ (f+1)):Oct (enc f n):=by
 induction f generalizing n with
 | zero=>intro x hx;simp [enc] at hx;subst hx;simp at h1;omega
 | succ f ih =>
   rw [enc]
   split
   ·intro x hx
    rcases List.mem_cons.1 hx with rfl | hx
    ·omega
    ·refine ih (n / 128) (by omega) ?_ x hx
     rw [Int.pow_succ] at h1
     exact Int.ediv_lt_of_lt_mul (by decide) h1
   ·intro x hx;simp at hx;subst hx;omega
theorem rdN_enc (f i:Nat) (acc n:Int) (l:List Int) (h0:0≤n) (h1:n < 128 ^ (f+1)) (ha:0≤acc) (hM:acc+n*2 ^ (7*i)≤1099511627776) (hz:n=0→i=0) :
 rdN (f+1) i acc (enc f n++l)=(0,acc+n*2 ^ (7*i),l):=by
 induction f generalizing i acc n with
 | zero =>
   simp at h1
   have e:n % 128=n:=by omega
   rw [enc]
   show rdN (0+1) i acc (n :: l)=_
   rw [rdN,if_neg (by omega),e,if_neg (by omega)]
 | succ f ih =>
   by_cases h:128≤n
   ·rw [enc_great _ _ h]
    show rdN (f+1+1) i acc ((n % 128+128) :: (enc f (n / 128)++l))=_
    rw [rdN,if_pos (by omega)]
    have e:(n % 128+128) % 128=n % 128:=by omega
    have e2:(2:Int) ^ (7*(i+1))=128*2 ^ (7*i):=by rw [show 7*(i+1)=7+7*i by omega,Int.pow_add];rfl
    have hp:(0:Int) < 2 ^ (7*i):=Int.pow_pos (by decide)
    have e3:acc+n % 128*2 ^ (7*i)+n / 128*2 ^ (7*(i+1))=acc+n*2 ^ (7*i):=by
     rw [e2]
     have h4:n=n / 128*128+n % 128:=by omega
     generalize (2:Int) ^ (7*i)=P
     have h5:n*P=(n / 128*128+n % 128)*P:=by rw [← h4]
     rw [h5,Int.add_mul,Int.mul_assoc];omega
    rw [e,ih (i+1) (acc+n % 128*2 ^ (7*i)) (n / 128) (by omega) ?_ ?_ (by rw [e3];exact hM) (by omega),e3]
    ·rw [Int.pow_succ] at h1
     exact Int.ediv_lt_of_lt_mul (by decide) h1
    ·have:0≤n % 128*2 ^ (7*i):=Int.mul_nonneg (by omega) (by omega)
     omega
   ·rw [enc_small _ _ (by omega)]
    have e:n % 128=n:=by omega
    show rdN (f+1+1) i acc (n :: l)=_
    rw [rdN,if_neg (by omega),e,if_neg (by omega)]
theorem rdNum_enc (n:Int) (l:List Int) (h0:0≤n) (h1:n≤1099511627776):rdNum (encNum n++l)=(0,n,l):=by
 have:=rdN_enc 5 0 0 n l h0 (by omega) (by omega) (by omega) (by omega)
 simpa [rdNum,encNum] using this
theorem digit_lt (acc d:Int) (k:Nat) (h0:0≤acc) (h1:acc < 2 ^ (7*k)):0≤acc+d % 128*2 ^ (7*k)∧acc+d % 128*2 ^ (7*k) < 2 ^ (7*(k+1)):=by
 have hp:(0:Int) < 2 ^ (7*k):=Int.pow_pos (by decide)
 have e:(2:Int) ^ (7*(k+1))=2 ^ (7*k)*128:=by rw [show 7*(k+1)=7*k+7 by omega,Int.pow_add];rfl
 rw [e]
 generalize (2:Int) ^ (7*k)=P at *
 have h2:0≤d % 128:=by omega
 have h3:d % 128≤127:=by omega
 generalize d % 128=m at *
 have h4:0≤m*P:=Int.mul_nonneg h2 (by omega)
 have h5:m*P≤127*P:=Int.mul_le_mul_of_nonneg_right h3 (by omega)
 omega
theorem rdN_one (f i:Nat) (acc x:Int) (l rest:List Int) (ho:Oct l) (h:rdN f i acc l=(0,x,rest)) (ha:0≤acc) (hM:acc < 2 ^ (7*i)) :
 ∃ m,0≤m∧x=acc+m*2 ^ (7*i)∧(0 < i→m≠0)∧∃ g,g+1=f∧l=enc g m++rest:=by
 induction f generalizing i acc l with
 | zero=>simp [rdN] at h
 | succ f ih =>
   cases l with
   | nil=>simp [rdN] at h
   | cons d l =>
     have hd:=ho.head
     rw [rdN] at h
     split at h
     ·obtain ⟨m,hm0,hmx,hmz,g,hg,hl⟩:=ih (i+1) _ l ho.tail h (digit_lt acc d i ha hM).1 (digit_lt acc d i ha hM).2
      refine ⟨m*128+d % 128,by omega,?_,?_,g+1,by omega,?_⟩
      ·have e2:(2:Int) ^ (7*(i+1))=128*2 ^ (7*i):=by rw [show 7*(i+1)=7+7*i by omega,Int.pow_add];rfl
       rw [hmx,e2]
       generalize (2:Int) ^ (7*i)=P
       rw [Int.add_mul,Int.mul_assoc];omega
      ·intro _;have:=hmz (by omega);omega
      ·have hm1:m≠0:=hmz (by omega)
       rw [enc_great g _ (by omega),hl]
       have e1:(m*128+d % 128) / 128=m:=by omega
       have e3:(m*128+d % 128) % 128+128=d:=by omega
       rw [e1,e3];rfl
     ·split at h
      ·simp at h
      ·rename_i h1 h2
       simp at h
       refine ⟨d,by omega,?_,?_,f,rfl,?_⟩
       ·rw [← h.1];congr 2;omega
       ·intro hi hz;exact h2 (.inl ⟨hz,hi⟩)
       ·rw [enc_small _ _ (by omega),h.2];rfl
theorem rdNum_one (x:Int) (l rest:List Int) (ho:Oct l) (h:rdNum l=(0,x,rest)):0≤x∧x≤1099511627776∧l=encNum x++rest:=by
 obtain ⟨m,h1,h2,_,g,hg,h3⟩:=rdN_one 6 0 0 x l rest ho h (by omega) (by decide)
 simp at h2
 obtain rfl:g=5:=by omega
 subst h2
 refine ⟨h1,?_,h3⟩
 have:∀ f i acc l,rdN f i acc l=(0,x,rest)→x≤1099511627776:=by
  intro f
  induction f with
  | zero=>intro i acc l h;simp [rdN] at h
  | succ f ih =>
    intro i acc l h
    cases l with
    | nil=>simp [rdN] at h
    | cons d l =>
      rw [rdN] at h
      split at h
      ·exact ih _ _ _ h
      ·split at h
       ·simp at h
       ·simp at h;omega
 exact this 6 0 0 l h
open Go.RowKit
theorem wrapsI64 (n:Int) (h₀:0≤n) (h₁:n < 2 ^ 63):IntKind.i64.wrap n=n:=by rw [IntKind.wrap_i64];omega
theorem u8_and127 {x:Int}(h₀:0≤x) (h₁:x < 256):bits .and .u8 x 127=x % 128:=bits_mask .u8 8 (by decide) wraps_u8 7 (by decide) x h₀ h₁
theorem u8_or128r {x:Int}(h₀:0≤x) (h₁:x < 256):bits .or .u8 x 128=x % 128+128:=by
 have h:=(bits_nat .u8 8 (by decide) wraps_u8 x.toNat 128 (by omega) (by decide)).2
 have e:((x.toNat:Nat):Int)=x:=by omega
 rw [e] at h
 have h2:x.toNat ||| 128=x.toNat % 128+128:=by
  have h3:∀ y:Fin 256,y.val ||| 128=y.val % 128+128:=by decide +kernel
  exact h3 ⟨x.toNat,by omega⟩
 rw [h2] at h
 have:((128:Nat):Int)=128:=rfl
 rw [this] at h
 rw [h];omega
theorem or_nat (a b i:Nat) (hb:b % 2 ^ i=0) (ha:a < 2 ^ i) (hb2:b < 2 ^ 63) (ha2:a < 2 ^ 63):bits .or .i64 (a:Int) (b:Int)=(a:Int)+b:=by
 have h:=(bits_nat .i64 63 (by decide) wrapsI64 a b ha2 hb2).2
 rw [h,Nat.or_comm,nat_join i b a hb ha];omega
theorem or_digit (acc d:Int) (k:Nat) (h0:0≤acc) (h1:acc < 2 ^ (7*k)) (hd:0≤d) (hd2:d < 256) (hk:k < 6) :
 bits .or .i64 acc (wrap64 (wrap64 (bits .and .u8 d 127)*2 ^ (7*k)))=acc+d % 128*2 ^ (7*k):=by
 rw [u8_and127 hd hd2]
 obtain ⟨a,rfl⟩:=Int.eq_ofNat_of_zero_le h0
 obtain ⟨y,rfl⟩:=Int.eq_ofNat_of_zero_le hd
 obtain rfl | rfl | rfl | rfl | rfl | rfl:k=0∨k=1∨k=2∨k=3∨k=4∨k=5:=by omega
 ·have e:wrap64 (wrap64 ((y:Int) % 128)*2 ^ (7*0))=((y % 128*2 ^ 0:Nat):Int):=by unfold wrap64;omega
  rw [e,or_nat a _ 0 (by omega) (by omega) (by omega) (by omega)];omega
 ·have e:wrap64 (wrap64 ((y:Int) % 128)*2 ^ (7*1))=((y % 128*2 ^ 7:Nat):Int):=by unfold wrap64;omega
  rw [e,or_nat a _ 7 (by omega) (by omega) (by omega) (by omega)];omega
 ·have e:wrap64 (wrap64 ((y:Int) % 128)*2 ^ (7*2))=((y % 128*2 ^ 14:Nat):Int):=by unfold wrap64;omega
  rw [e,or_nat a _ 14 (by omega) (by omega) (by omega) (by omega)];omega
 ·have e:wrap64 (wrap64 ((y:Int) % 128)*2 ^ (7*3))=((y % 128*2 ^ 21:Nat):Int):=by unfold wrap64;omega
  rw [e,or_nat a _ 21 (by omega) (by omega) (by omega) (by omega)];omega
 ·have e:wrap64 (wrap64 ((y:Int) % 128)*2 ^ (7*4))=((y % 128*2 ^ 28:Nat):Int):=by unfold wrap64;omega
  rw [e,or_nat a _ 28 (by omega) (by omega) (by omega) (by omega)];omega
 ·have e:wrap64 (wrap64 ((y:Int) % 128)*2 ^ (7*5))=((y % 128*2 ^ 35:Nat):Int):=by unfold wrap64;omega
  rw [e,or_nat a _ 35 (by omega) (by omega) (by omega) (by omega)];omega
def crcPoly:Nat:=3988292384
def crcStep (x:Nat):Nat:=if x % 2=1 then (x / 2) ^^^ crcPoly else x / 2
def crcSteps:Nat→Nat→Nat
 | 0,x=>x
 | k+1,x=>crcStep (crcSteps k x)
def crcReg (r:Nat) (l:List Int):Nat:=l.foldl (fun r d=>crcSteps 8 (r ^^^ d.toNat)) r
def crcOf (l:List Int):Nat:=4294967295 - crcReg 4294967295 l
theorem crcStep_lt (x:Nat) (h:x < 4294967296):crcStep x < 4294967296:=by
 unfold crcStep crcPoly
 split
 ·exact Nat.xor_lt_two_pow (n:=32) (by omega) (by decide)
 ·omega
theorem crcSteps_lt (k x:Nat) (h:x < 4294967296):crcSteps k x < 4294967296:=by
 induction k with
 | zero=>exact h
 | succ k ih=>exact crcStep_lt _ ih
theorem crcReg_lt (r:Nat) (l:List Int) (hr:r < 4294967296) (hl:∀ x∈l,0≤x∧x < 256):crcReg r l < 4294967296:=by
 induction l generalizing r with
 | nil=>exact hr
 | cons d l ih =>
   refine ih _ ?_ (fun x hx=>hl x (List.mem_cons_of_mem _ hx))
   have:=hl d (List.mem_cons_self ..)
   exact crcSteps_lt _ _ (Nat.xor_lt_two_pow (n:=32) (by omega) (by omega))
theorem crcReg_snoc (r:Nat) (l:List Int) (d:Int):crcReg r (l++[d])=crcSteps 8 (crcReg r l ^^^ d.toNat):=by
 unfold crcReg;rw [List.foldl_append];rfl
theorem crcReg_append (r:Nat) (l m:List Int):crcReg r (l++m)=crcReg (crcReg r l) m:=by
 unfold crcReg;rw [List.foldl_append]
theorem crc_odd (x:Nat) (hx:x < 4294967296) (h:x % 2=1):bits .and .u32 (x:Int) 1=1∧bits .xor .u32 ((x:Int) / 2) 3988292384=((crcStep x:Nat):Int):=by
 constructor
 ·have:=u32_and_nat x 1 hx (by decide)
  rw [nat_mask1,h] at this
  exact this
 ·have:=u32_xor_nat (x / 2) 3988292384 (by omega) (by decide)
  have e:crcStep x=(x / 2) ^^^ 3988292384:=by unfold crcStep crcPoly;rw [if_pos h]
  rw [e,← this];rfl
theorem crc_even (x:Nat) (hx:x < 4294967296) (h:x % 2=0):bits .and .u32 (x:Int) 1=0∧(x:Int) / 2=((crcStep x:Nat):Int):=by
 constructor
 ·have:=u32_and_nat x 1 hx (by decide)
  rw [nat_mask1,h] at this
  exact this
 ·have e:crcStep x=x / 2:=by unfold crcStep;rw [if_neg (by omega)]
  rw [e];omega
theorem xor_ones (r:Nat) (h:r < 4294967296):4294967295 ^^^ r=4294967295 - r:=by
 have e:(BitVec.allOnes 32 ^^^ BitVec.ofNat 32 r)= ~~~ (BitVec.ofNat 32 r):=BitVec.allOnes_xor
 have e2:=congrArg BitVec.toNat e
 rw [BitVec.toNat_xor,BitVec.toNat_not,BitVec.toNat_allOnes,BitVec.toNat_ofNat,Nat.mod_eq_of_lt (by omega)] at e2
 exact e2
theorem u32_not (r:Nat) (h:r < 4294967296):bits .xor .u32 IntKind.u32.max (r:Int)=((4294967295 - r:Nat):Int):=by
 have h1:=u32_xor_nat 4294967295 r (by decide) h
 rw [xor_ones r h] at h1
 exact h1
theorem ret_int {k:IntKind}{a b:Int}(h:a=b):Ending.returned (.int k a)=.returned (.int k b):=by rw [h]
theorem ret_bool {a b:Bool}(h:a=b):Ending.returned (.bool a)=.returned (.bool b):=by rw [h]
theorem crcOf_le (l:List Int):crcOf l≤4294967295:=by unfold crcOf;omega
def hiB (many:Nat) (x:Int):List Int:=(List.range many).map fun i=>x / 2 ^ (8*(many - 1 - i)) % 256
theorem hiB_length (many:Nat) (x:Int):(hiB many x).length=many:=by simp [hiB]
theorem hiB_oct (many:Nat) (x:Int):Oct (hiB many x):=by
 intro y hy
 simp only [hiB,List.mem_map] at hy
 obtain ⟨i,_,rfl⟩:=hy
 omega
theorem hiB_take (many:Nat) (x:Int) (k:Nat) (h:k < many):(hiB many x).take (k+1)=(hiB many x).take k++[x / 2 ^ (8*(many - 1 - k)) % 256]:=by
 rw [List.take_succ_eq_append_getElem (by rw [hiB_length];exact h)]
 simp [hiB]
def rdHi (l:List Int):Int:=l.foldl (fun x d=>(x*256 % 18446744073709551616+d)) 0
theorem rdHi_snoc (l:List Int) (d:Int):rdHi (l++[d])=rdHi l*256 % 18446744073709551616+d:=by
 unfold rdHi;rw [List.foldl_append];rfl
theorem rdHi_bd (l:List Int) (ho:Oct l):0≤rdHi l∧rdHi l < 18446744073709551616:=by
 have:∀ (m:List Int),Oct m→0≤rdHi m.reverse∧rdHi m.reverse < 18446744073709551616:=by
  intro m
  induction m with
  | nil=>intro _;decide
  | cons d m ih =>
    intro h
    have h1:=ih h.tail
    have h2:=h.head
    rw [List.reverse_cons,rdHi_snoc]
    omega
 have h:=this l.reverse (fun x hx=>ho x (by simpa using hx))
 simpa using h
theorem rdHi4 (a b c d:Int) (h:Oct [a,b,c,d]):rdHi [a,b,c,d]=a*16777216+b*65536+c*256+d:=by
 have ha:=h a (by simp);have hb:=h b (by simp);have hc:=h c (by simp);have hd:=h d (by simp)
 simp only [rdHi,List.foldl_cons,List.foldl_nil]
 omega
theorem hiB4 (x:Int):hiB 4 x=[x / 16777216 % 256,x / 65536 % 256,x / 256 % 256,x % 256]:=by
 simp [hiB,List.range,List.range.loop]
theorem rdHi_hiB4 (x:Int) (h0:0≤x) (h1:x < 4294967296):rdHi (hiB 4 x)=x:=by
 have:=hiB_oct 4 x
 rw [hiB4] at this ⊢
 rw [rdHi4 _ _ _ _ this]
 omega
theorem list4 {l:List Int}(h:l.length=4):∃ a b c d,l=[a,b,c,d]:=by
 match l,h with
 | [a,b,c,d],_=>exact ⟨a,b,c,d,rfl⟩
theorem hiB4_rdHi (l:List Int) (h:l.length=4) (ho:Oct l):0≤rdHi l∧rdHi l < 4294967296∧hiB 4 (rdHi l)=l:=by
 obtain ⟨a,b,c,d,rfl⟩:=list4 h
 have ha:=ho a (by simp);have hb:=ho b (by simp);have hc:=ho c (by simp);have hd:=ho d (by simp)
 rw [rdHi4 _ _ _ _ ho,hiB4]
 refine ⟨by omega,by omega,?_⟩
 simp only [List.cons.injEq,and_true]
 omega
def summed (l:List Int):Bool:=rdHi (l.drop (l.length - 4))==(crcOf (l.take (l.length - 4)):Int)
def frameOf (l:List Int):List Int:=hiB 4 l.length++hiB 4 (crcOf (hiB 4 l.length))++(l++hiB 4 (crcOf l))
def frameE (l:List Int):List Int × Int:=if l.length≤1048576 then (frameOf l,0) else ([],3)
def unframe (l:List Int):List Int × Int × Int :=
 if l.length < 8 then ([],0,2) else
 if summed (l.take 8)=false then ([],0,5) else
 if 1048576 < rdHi (l.take 4) then ([],0,3) else
 if (l.length:Int) < rdHi (l.take 4)+12 then ([],0,2) else
 if summed ((l.take ((rdHi (l.take 4)).toNat+12)).drop 8)=false then ([],0,5) else
 ((l.take (8+(rdHi (l.take 4)).toNat)).drop 8,rdHi (l.take 4)+12,0)
end Go.Proofs.YtakafmejllilnaaGreat
