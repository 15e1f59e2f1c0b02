/-
  Texts by parts: the parts of a text, their order, what is left of them when "", "." and ".." have done their work: plain functions on lists of bytes, of no program.
-/
import Derived.Lib.Bytealg
import Derived.Lib.Strings
import Derived.Lib.Join
namespace Go.Proofs.Yteiagkjhmhllnaa
def partsB:List UInt8→List (List UInt8)
 | []=>[[]]
 | c :: t=>if c=47 then [] :: partsB t else match partsB t with
   | []=>[[c]]
   | p :: ps=>(c :: p) :: ps
theorem partsB_cons (c:UInt8) (t:List UInt8):partsB (c :: t)=if c=47 then [] :: partsB t else match partsB t with
 | []=>[[c]]
 | p :: ps=>(c :: p) :: ps:=rfl
theorem partsB_ne (l:List UInt8):partsB l≠[]:=by
 induction l with
 | nil=>simp [partsB]
 | cons c t ih =>
   unfold partsB
   split
   ·simp
   ·split <;> simp
theorem partsB_miss (l:List UInt8) (h:(47:UInt8) ∉ l):partsB l=[l]:=by
 induction l with
 | nil=>rfl
 | cons c t ih =>
   simp only [List.mem_cons,not_or] at h
   unfold partsB
   rw [if_neg (fun e=>h.1 e.symm),ih h.2]
theorem partsB_hit (a b:List UInt8) (h:(47:UInt8) ∉ a):partsB (a++47 :: b)=a :: partsB b:=by
 induction a with
 | nil=>simp [partsB]
 | cons c t ih =>
   simp only [List.mem_cons,not_or] at h
   rw [List.cons_append,partsB_cons,if_neg (fun e=>h.1 e.symm),ih h.2]
theorem partsB_free (l:List UInt8):∀ p∈partsB l,(47:UInt8) ∉ p:=by
 induction l with
 | nil=>simp [partsB]
 | cons c t ih =>
   unfold partsB
   split
   ·intro p hp;simp only [List.mem_cons] at hp;rcases hp with rfl | hp;simp;exact ih p hp
   ·rename_i hc
    split
    ·intro p hp;simp only [List.mem_singleton] at hp;subst hp;simpa using fun e=>hc e.symm
    ·rename_i q qs hq
     rw [hq] at ih
     intro p hp
     simp only [List.mem_cons] at hp
     rcases hp with rfl | hp
     ·simp only [List.mem_cons,not_or];exact ⟨fun e=>hc e.symm,ih q (by simp)⟩
     ·exact ih p (by simp [hp])
theorem split47 (l:List UInt8):(47:UInt8) ∉ l∨∃ a b,l=a++47 :: b∧(47:UInt8) ∉ a:=by
 induction l with
 | nil=>exact .inl (by simp)
 | cons c t ih =>
   by_cases hc:c=47
   ·exact .inr ⟨[],t,by simp [hc],by simp⟩
   ·rcases ih with h | ⟨a,b,rfl,h⟩
    ·exact .inl (by simp only [List.mem_cons,not_or];exact ⟨fun e=>hc e.symm,h⟩)
    ·exact .inr ⟨c :: a,b,rfl,by simp only [List.mem_cons,not_or];exact ⟨fun e=>hc e.symm,h⟩⟩
theorem partsB_app (a b:List UInt8):partsB (a++47 :: b)=partsB a++partsB b:=by
 induction a with
 | nil=>simp [partsB]
 | cons c t ih =>
   rw [List.cons_append,partsB_cons,partsB_cons,ih]
   by_cases hc:c=47
   ·simp [hc]
   ·simp only [hc,if_false]
    have:=partsB_ne t
    cases h:partsB t with
    | nil=>exact absurd h this
    | cons p ps=>simp
def joinB (ps:List (List UInt8)):List UInt8:=Lib.join ps [47]
theorem joinB_one (p:List UInt8):joinB [p]=p:=Lib.join_one p [47]
theorem joinB_cons2 (p q:List UInt8) (r:List (List UInt8)):joinB (p :: q :: r)=p++47 :: joinB (q :: r):=by
 unfold joinB
 rw [Lib.join_cons,Lib.join_cons]
 simp [Lib.joinTail]
theorem joinB_parts (l:List UInt8):joinB (partsB l)=l:=by
 induction l with
 | nil=>rfl
 | cons c t ih =>
   unfold partsB
   have hne:=partsB_ne t
   by_cases hc:c=47
   ·rw [if_pos hc]
    cases h:partsB t with
    | nil=>exact absurd h hne
    | cons p ps=>rw [joinB_cons2,← h,ih,hc];rfl
   ·rw [if_neg hc]
    cases h:partsB t with
    | nil=>exact absurd h hne
    | cons p ps =>
      rw [h] at ih
      cases ps with
      | nil=>rw [joinB_one] at ih;rw [joinB_one,ih]
      | cons q qs=>rw [joinB_cons2] at ih;rw [joinB_cons2,← ih];rfl
theorem parts_join (ps:List (List UInt8)) (hne:ps≠[]) (h:∀ p∈ps,(47:UInt8) ∉ p):partsB (joinB ps)=ps:=by
 induction ps with
 | nil=>exact absurd rfl hne
 | cons p r ih =>
   cases r with
   | nil=>rw [joinB_one,partsB_miss p (h p (by simp))]
   | cons q r =>
     rw [joinB_cons2,partsB_hit _ _ (h p (by simp)),ih (by simp) (fun x hx=>h x (by simp [hx]))]
theorem joinB_app (x y:List (List UInt8)) (hx:x≠[]) (hy:y≠[]):joinB (x++y)=joinB x++47 :: joinB y:=by
 induction x with
 | nil=>exact absurd rfl hx
 | cons p r ih =>
   cases r with
   | nil =>
     cases y with
     | nil=>exact absurd rfl hy
     | cons q y=>rw [joinB_one];exact joinB_cons2 p q y
   | cons q r =>
     rw [joinB_cons2,List.cons_append,List.cons_append,joinB_cons2,← List.cons_append,ih (by simp)];simp
theorem partsB_inj {a b:List UInt8}(h:partsB a=partsB b):a=b:=by rw [← joinB_parts a,h,joinB_parts b]
theorem partsB_length (l:List UInt8):(partsB l).length=l.countP (·=47)+1:=by
 induction l with
 | nil=>rfl
 | cons c t ih =>
   unfold partsB
   by_cases hc:c=47
   ·rw [if_pos hc,List.length_cons,ih,List.countP_cons];simp [hc]
   ·rw [if_neg hc,List.countP_cons]
    have hne:=partsB_ne t
    cases h:partsB t with
    | nil=>exact absurd h hne
    | cons p ps=>rw [h] at ih;simp only [List.length_cons] at ih ⊢;simp [hc];omega
theorem partsB_le (l:List UInt8):(partsB l).length≤l.length+1:=by
 rw [partsB_length]
 have:=List.countP_le_length (p:=fun c:UInt8=>decide (c=47)) (l:=l)
 omega
structure Ord3 {α:Type}(c:α→α→Int):Prop where
 anti:∀ a b,c b a=- c a b
 zero:∀ a b,c a b=0↔a=b
 trans:∀ a b d,c a b≤0→c b d≤0→c a d≤0
def lexC {α:Type}(c:α→α→Int):List α→List α→Int
 | [],[]=>0
 | [],_ :: _=>-1
 | _ :: _,[]=>1
 | a :: as,b :: bs=>if c a b=0 then lexC c as bs else c a b
theorem Ord3.lex {α:Type}{c:α→α→Int}(h:Ord3 c):Ord3 (lexC c):=by
 refine ⟨?_,?_,?_⟩
 ·intro a
  induction a with
  | nil=>intro b;cases b <;> simp [lexC]
  | cons x a ih =>
    intro b
    cases b with
    | nil=>simp [lexC]
    | cons y b =>
      simp only [lexC]
      rw [h.anti x y,ih b]
      by_cases hc:c x y=0
      ·simp [hc]
      ·rw [if_neg (by omega),if_neg hc]
 ·intro a
  induction a with
  | nil=>intro b;cases b <;> simp [lexC]
  | cons x a ih =>
    intro b
    cases b with
    | nil=>simp [lexC]
    | cons y b =>
      simp only [lexC,List.cons.injEq]
      by_cases hc:c x y=0
      ·rw [if_pos hc,ih b];simp [(h.zero x y).1 hc]
      ·rw [if_neg hc];constructor
       ·intro e;exact absurd e hc
       ·rintro ⟨e,_⟩;exact absurd ((h.zero x y).2 e) hc
 ·intro a
  induction a with
  | nil=>intro b d _ _;cases d <;> simp [lexC]
  | cons x a ih =>
    intro b d hab hbd
    cases b with
    | nil=>simp [lexC] at hab
    | cons y b =>
      cases d with
      | nil=>simp [lexC] at hbd
      | cons z d =>
        simp only [lexC] at hab hbd ⊢
        have hxy:c x y≤0:=by by_cases e:c x y=0 <;> simp [e] at hab <;> omega
        have hyz:c y z≤0:=by by_cases e:c y z=0 <;> simp [e] at hbd <;> omega
        have hxz:=h.trans x y z hxy hyz
        by_cases e:c x z=0
        ·rw [if_pos e]
         have:=(h.zero x z).1 e
         subst this
         have hyx:=h.anti x y
         have e1:c x y=0:=by omega
         rw [if_pos e1] at hab
         have:=(h.zero x y).1 e1
         subst this
         rw [if_pos e] at hbd
         exact ih b d hab hbd
        ·rw [if_neg e];exact hxz
theorem Ord3.strict {α:Type}{c:α→α→Int}(h:Ord3 c) {x y z:α}(h1:c x y≤0) (h2:c y z≤0):c x z≤0∧(c x z < 0∨(c x y=0∧c y z=0)):=by
 have h3:=h.trans x y z h1 h2
 refine ⟨h3,?_⟩
 by_cases e:c x z=0
 ·right
  have:=(h.zero x z).1 e
  subst this
  have:=h.anti x y
  omega
 ·left;omega
def cmp8 (a b:UInt8):Int:=if a < b then -1 else if b < a then 1 else 0
theorem ord8:Ord3 cmp8:=by
 refine ⟨?_,?_,?_⟩
 ·intro a b
  unfold cmp8
  simp only [UInt8.lt_iff_toNat_lt]
  split <;> split <;> first | rfl | omega | (split <;> first | rfl | omega) | skip
 ·intro a b
  unfold cmp8
  rw [← UInt8.toNat_inj]
  simp only [UInt8.lt_iff_toNat_lt]
  split
  ·constructor <;> intro h <;> omega
  ·split
   ·constructor <;> intro h <;> omega
   ·constructor <;> intro h <;> omega
 ·intro a b d
  unfold cmp8
  simp only [UInt8.lt_iff_toNat_lt]
  intro h1 h2
  split
  ·omega
  ·split
   ·split at h1
    ·split at h2
     ·omega
     ·split at h2 <;> omega
    ·split at h1
     ·omega
     ·split at h2
      ·omega
      ·split at h2 <;> omega
   ·omega
theorem compare_lex:∀ a b:List UInt8,Lib.compareBytes a b=lexC cmp8 a b
 | [],[]=>rfl
 | [],_ :: _=>rfl
 | _ :: _,[]=>rfl
 | x :: a,y :: b=>by
   unfold Lib.compareBytes lexC
   rw [compare_lex a b]
   unfold cmp8
   split
   ·simp
   ·split <;> simp
theorem ordB:Ord3 Lib.compareBytes:=by
 have:Lib.compareBytes=lexC cmp8:=by funext a b;exact compare_lex a b
 rw [this];exact ord8.lex
def cmpP:List (List UInt8)→List (List UInt8)→Int:=lexC Lib.compareBytes
theorem ordP:Ord3 cmpP:=ordB.lex
def cmpT (a b:List UInt8):Int:=cmpP (partsB a) (partsB b)
theorem ordT:Ord3 cmpT :=
 ⟨fun a b=>ordP.anti _ _,fun a b=>⟨fun h=>partsB_inj ((ordP.zero _ _).1 h),fun h=>by rw [h];exact (ordP.zero _ _).2 rfl⟩,fun a b d=>ordP.trans _ _ _⟩
theorem compare_vals (a b:List UInt8):Lib.compareBytes a b=-1∨Lib.compareBytes a b=0∨Lib.compareBytes a b=1:=by
 fun_induction Lib.compareBytes a b <;> simp_all
theorem cmpP_vals (a b:List (List UInt8)):cmpP a b=-1∨cmpP a b=0∨cmpP a b=1:=by
 unfold cmpP
 induction a generalizing b with
 | nil=>cases b <;> simp [lexC]
 | cons x a ih =>
   cases b with
   | nil=>simp [lexC]
   | cons y b =>
     simp only [lexC]
     split
     ·exact ih b
     ·exact compare_vals x y
theorem cmpP_prefix (x y:List (List UInt8)):cmpP x (x++y)≤0:=by
 unfold cmpP
 induction x with
 | nil=>cases y <;> simp [lexC]
 | cons p x ih =>
   simp only [List.cons_append,lexC]
   rw [if_pos ((ordB.zero p p).2 rfl)];exact ih
theorem cmpP_between (x y z:List (List UInt8)) (h1:cmpP x z≤0) (h2:cmpP z (x++y)≤0):∃ t,z=x++t:=by
 unfold cmpP at h1 h2
 induction x generalizing z with
 | nil=>exact ⟨z,rfl⟩
 | cons p x ih =>
   cases z with
   | nil=>simp [lexC] at h1
   | cons q z =>
     simp only [List.cons_append,lexC] at h1 h2
     have a1:Lib.compareBytes p q≤0:=by by_cases e:Lib.compareBytes p q=0 <;> simp [e] at h1 <;> omega
     have a2:Lib.compareBytes q p≤0:=by by_cases e:Lib.compareBytes q p=0 <;> simp [e] at h2 <;> omega
     have a3:=ordB.anti p q
     have e1:Lib.compareBytes p q=0:=by omega
     have e2:Lib.compareBytes q p=0:=by omega
     rw [if_pos e1] at h1
     rw [if_pos e2] at h2
     have:=(ordB.zero p q).1 e1
     subst this
     obtain ⟨t,rfl⟩:=ih z h1 h2
     exact ⟨t,rfl⟩
def withinB (d p:List UInt8):Bool:=d.isEmpty || p==d || (d++[47]).isPrefixOf p
theorem withinB_iff (d p:List UInt8):withinB d p=true↔d=[]∨p=d∨∃ t,p=d++47 :: t:=by
 unfold withinB
 simp only [Bool.or_eq_true,List.isEmpty_iff,beq_iff_eq,List.isPrefixOf_iff_prefix,or_assoc]
 constructor
 ·rintro (h | h | ⟨t,h⟩)
  ·exact .inl h
  ·exact .inr (.inl h)
  ·exact .inr (.inr ⟨t,by rw [← h];simp⟩)
 ·rintro (h | h | ⟨t,h⟩)
  ·exact .inl h
  ·exact .inr (.inl h)
  ·exact .inr (.inr ⟨t,by rw [h];simp⟩)
theorem within_first (d p:List UInt8) (hd:d≠[]) (h:withinB d p=true):cmpT d p≤0:=by
 rcases (withinB_iff d p).1 h with h | rfl | ⟨t,rfl⟩
 ·exact absurd h hd
 ·exact Int.le_of_eq ((ordT.zero p p).2 rfl)
 ·unfold cmpT;rw [partsB_app];exact cmpP_prefix _ _
theorem within_between (d p b:List UInt8) (h1:cmpT d p≤0) (h2:cmpT p (d++47 :: b)≤0):withinB d p=true:=by
 unfold cmpT at h1 h2
 rw [partsB_app] at h2
 obtain ⟨t,ht⟩:=cmpP_between _ _ _ h1 h2
 refine (withinB_iff d p).2 (.inr ?_)
 by_cases e:t=[]
 ·subst e;rw [List.append_nil] at ht;exact .inl (partsB_inj ht)
 ·refine .inr ⟨joinB t,?_⟩
  rw [← joinB_parts p,ht,joinB_app _ _ (partsB_ne d) e,joinB_parts]
def resB:List (List UInt8)→List (List UInt8)→Option (List (List UInt8))
 | k,[]=>some k
 | k,p :: ps=>if p=[]∨p=[46] then resB k ps else if p=[46,46] then (if k=[] then none else resB k.dropLast ps) else resB (k++[p]) ps
def letB (point:Bool) (c:UInt8):Bool:=(97≤c && c≤122) || (48≤c && c≤57) || c==95 || c==45 || (point && c==46)
def wordB (point:Bool) (l:List UInt8):Bool:=0 < l.length && l.length≤24 && l.all (letB point)
def finB (k:List (List UInt8)):Option (List UInt8) :=
 if k=[]∨8 < k.length then none else if k.all (wordB true)=true∧(joinB k).length≤64 then some (joinB k) else none
def normB (l:List UInt8):Option (List UInt8):=(resB [] (partsB l)).bind finB
def Stays (p:List UInt8):Prop:=p≠[]∧p≠[46]∧p≠[46,46]∧(47:UInt8) ∉ p
theorem resB_stays (k ps r:List (List UInt8)) (hk:∀ p∈k,Stays p) (hp:∀ p∈ps,(47:UInt8) ∉ p) (h:resB k ps=some r):∀ p∈r,Stays p:=by
 induction ps generalizing k with
 | nil=>simp only [resB,Option.some.injEq] at h;subst h;exact hk
 | cons q ps ih =>
   simp only [resB] at h
   have hps:∀ p∈ps,(47:UInt8) ∉ p:=fun p h=>hp p (by simp [h])
   split at h
   ·exact ih k hk hps h
   ·rename_i h1
    simp only [not_or] at h1
    split at h
    ·split at h
     ·cases h
     ·exact ih _ (fun p h=>hk p (List.dropLast_subset k h)) hps h
    ·rename_i h2
     refine ih _ ?_ hps h
     intro p hm
     simp only [List.mem_append,List.mem_singleton] at hm
     rcases hm with hm | rfl
     ·exact hk p hm
     ·exact ⟨h1.1,h1.2,h2,hp p (by simp)⟩
theorem resB_app (k x y:List (List UInt8)):resB k (x++y)=(resB k x).bind fun r=>resB r y:=by
 induction x generalizing k with
 | nil=>simp [resB]
 | cons p x ih =>
   simp only [List.cons_append,resB]
   split
   ·exact ih k
   ·split
    ·split
     ·rfl
     ·exact ih _
    ·exact ih _
theorem resB_same (k ps:List (List UInt8)) (h:∀ p∈ps,Stays p):resB k ps=some (k++ps):=by
 induction ps generalizing k with
 | nil=>simp [resB]
 | cons p ps ih =>
   obtain ⟨h1,h2,h3,_⟩:=h p (by simp)
   simp only [resB]
   rw [if_neg (by simp [h1,h2]),if_neg h3,ih _ (fun q hq=>h q (by simp [hq]))]
   simp
theorem resB_under (j k ps r:List (List UInt8)) (h:resB k ps=some r):resB (j++k) ps=some (j++r):=by
 induction ps generalizing k with
 | nil=>simp only [resB,Option.some.injEq] at h ⊢;rw [h]
 | cons p ps ih =>
   simp only [resB] at h ⊢
   split
   ·rename_i h1;rw [if_pos h1] at h;exact ih k h
   ·rename_i h1
    rw [if_neg h1] at h
    split
    ·rename_i h2
     rw [if_pos h2] at h
     split at h
     ·cases h
     ·rename_i h3
      rw [if_neg (by simp [h3]),List.dropLast_append_of_ne_nil h3]
      exact ih _ h
    ·rename_i h2
     rw [if_neg h2] at h
     rw [List.append_assoc];exact ih _ h
theorem finB_some {k:List (List UInt8)}{p:List UInt8}(h:finB k=some p):k≠[]∧k.length≤8∧k.all (wordB true)=true∧(joinB k).length≤64∧p=joinB k:=by
 unfold finB at h
 split at h
 ·cases h
 ·rename_i h1
  simp only [not_or] at h1
  split at h
  ·rename_i h2;simp only [Option.some.injEq] at h;exact ⟨h1.1,by omega,h2.1,h2.2,h.symm⟩
  ·cases h
theorem normB_some {l p:List UInt8}(h:normB l=some p):∃ k,resB [] (partsB l)=some k∧finB k=some p∧(∀ q∈k,Stays q)∧partsB p=k:=by
 unfold normB at h
 cases hr:resB [] (partsB l) with
 | none=>rw [hr] at h;cases h
 | some k =>
   rw [hr] at h
   have hf:finB k=some p:=h
   have hs:=resB_stays [] _ k (by simp) (partsB_free l) hr
   obtain ⟨h1,h2,h3,h4,rfl⟩:=finB_some hf
   exact ⟨k,rfl,hf,hs,parts_join k h1 (fun q hq=>(hs q hq).2.2.2)⟩
theorem normB_again {l p:List UInt8}(h:normB l=some p):normB p=some p:=by
 obtain ⟨k,h1,h2,h3,h4⟩:=normB_some h
 unfold normB
 rw [h4,resB_same _ _ h3]
 simpa using h2
theorem normB_len {l p:List UInt8}(h:normB l=some p):p.length≤64:=by
 obtain ⟨k,h1,h2,h3,h4⟩:=normB_some h
 obtain ⟨_,_,_,h5,rfl⟩:=finB_some h2
 exact h5
theorem norm_join {a b p q:List UInt8}(ha:normB a=some p) (hb:normB b=some q) :
 ∃ j k,finB j=some p∧finB k=some q∧normB ([47,46,47]++a++[47,47,46,47]++b++[47])=finB (j++k)∧normB (p++[47]++q)=finB (j++k)∧normB (a++[47,120,47,46,46,47]++[121,47,46,46])=some p
  ∧ partsB (p++[47]++q)=j++k∧joinB (j++k)=p++[47]++q:=by
 obtain ⟨j,j1,j2,j3,j4⟩:=normB_some ha
 obtain ⟨k,k1,k2,k3,k4⟩:=normB_some hb
 obtain ⟨j5,_,_,_,j6⟩:=finB_some j2
 obtain ⟨k5,_,_,_,k6⟩:=finB_some k2
 have hpq:partsB (p++[47]++q)=j++k:=by
  rw [List.append_assoc,List.singleton_append,partsB_app,j4,k4]
 refine ⟨j,k,j2,k2,?_,?_,?_,hpq,?_⟩
 ·have e:partsB ([47,46,47]++a++[47,47,46,47]++b++[47])=[[],[46]]++(partsB a++([[],[46]]++(partsB b++[[]]))):=by
   have e1:[47,46,47]++a++[47,47,46,47]++b++[47]=[]++47 :: ([46]++47 :: (a++47 :: ([]++47 :: ([46]++47 :: (b++47 :: []))))):=by simp
   rw [e1,partsB_app,partsB_app,partsB_app,partsB_app,partsB_app,partsB_app]
   rfl
  unfold normB
  rw [e]
  have h1:resB [] ([[],[46]]++(partsB a++([[],[46]]++(partsB b++[[]]))))=resB [] (partsB a++([[],[46]]++(partsB b++[[]]))):=by simp [resB]
  rw [h1,resB_app,j1]
  have h2:resB j ([[],[46]]++(partsB b++[[]]))=resB j (partsB b++[[]]):=by simp [resB]
  simp only [Option.bind]
  rw [h2,resB_app]
  have h3:=resB_under j [] _ _ k1
  rw [List.append_nil] at h3
  rw [h3]
  simp [resB]
 ·unfold normB
  rw [hpq,resB_same _ _ (by intro x hx;simp only [List.mem_append] at hx;rcases hx with h | h;exact j3 x h;exact k3 x h)]
  rfl
 ·have e1:a++[47,120,47,46,46,47]++[121,47,46,46]=a++47 :: ([120]++47 :: ([46,46]++47 :: ([121]++47 :: [46,46]))):=by simp
  unfold normB
  rw [e1,partsB_app,partsB_app,partsB_app,partsB_app,resB_app,j1]
  have h1:resB j (partsB [120]++(partsB [46,46]++(partsB [121]++partsB [46,46])))=some j:=by
   have e2:partsB [120]++(partsB [46,46]++(partsB [121]++partsB [46,46]))=[[120],[46,46],[121],[46,46]]:=rfl
   rw [e2]
   simp [resB]
  simp only [Option.bind]
  rw [h1]
  exact j2
 ·rw [joinB_app _ _ j5 k5,j6,k6];simp
theorem norm_join_not {j k:List (List UInt8)}{p q:List UInt8}(hj:finB j=some p) (hk:finB k=some q) (h:finB (j++k)=none):8 < (j++k).length∨64 < (joinB (j++k)).length:=by
 obtain ⟨j5,_,j7,_,_⟩:=finB_some hj
 obtain ⟨k5,_,k7,_,_⟩:=finB_some hk
 unfold finB at h
 split at h
 ·rename_i h1
  rcases h1 with h1 | h1
  ·simp [j5] at h1
  ·exact .inl h1
 ·split at h
  ·cases h
  ·rename_i h2
   simp only [List.all_append,j7,k7,Bool.and_self,true_and,Nat.not_le] at h2
   exact .inr h2
end Go.Proofs.Yteiagkjhmhllnaa
