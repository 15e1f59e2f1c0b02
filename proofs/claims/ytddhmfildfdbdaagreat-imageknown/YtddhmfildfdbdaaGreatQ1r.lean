/-
  Texts of this claim that are laid as one: App, PaPure, ChPure, Base, PaStr, ChPurS, CoPure, VtPure, RqPure, TrPure, TrLaP, GrPure, SePure, SeOnP0, SeLdP0, EpPure, EpMostP, EpChP, EpCuP, MaPure, MaPure2.
-/
import Derived.WalkKit
import Derived.Laws.AppendOwnNone
import Derived.Lib.Bytealg
import Derived.Lib.Strings
import Derived.Lib.Join
import Derived.Deep.Draws
import Derived.OneCell
import Derived.Laws.IdiomStrings
import Derived.Lib.CutLaws
/-
 append onto a row that is owned: the new row lies where the old one lay,or in a new block.
-/
namespace Go.Proofs.YtddhmfildfdbdaaGreat
open Go.RowKit
variable {P : Program} (w : World)
theorem append_fresh (base:Nat) (t ty e:TypeId) (i:TypeInfo) (z:Value) (size bytes:Nat) (ht:P.underlying t=some (.slice e)) (hi:P.info? e=some i) (hz:i.zero=some z)
 (hsize:i.size=size) (hby:i.bytes=bytes) (hzs:z.cells.size=size) (hsz:0 < size)
 (v:Value) (n:Nat) (xs:List Value) (hown:w.ownsRow base e size v n xs)
 (a:Addr) (m c:Nat) (news:List Value) (hl:news.length=m*size) (hnews:∀ j u,news[j]?=some u→w.cell? (a.add j)=some u) (h1:∀ u∈news,u.oneCell'=true)
 (h63:n+m≤maxLen) (hbytes:(n+m)*bytes≤140737488355328)
 (v':Value) (w':World) (hr:(Builtin.append_ #[t,t] ty #[v,.slice (some a) m c]).run P w=.ok v' w') :
 ∀ k,v'.ownBlock=some k→v.ownBlock=some k∨w.heap.size≤k:=by
 intro k hk
 rcases hown.2 with ⟨rfl,rfl⟩ | ⟨g,cap,cur,rfl,hbg,hg,hnc,hcm,hcs,htake⟩
 ·have hx:xs=[]:=List.eq_nil_of_length_eq_zero (by simpa using hown.1)
  subst hx
  obtain ⟨v2,w2,hr2,ho2,_⟩:=run_append_own (P:=P) w w.heap.size t ty e i z size bytes ht hi hz hsize hby hzs hsz _ _ _ (World.ownsRow_nil w w.heap.size e size) a m c news hl hnews h1 h63 hbytes (Nat.le_refl _)
  rw [hr] at hr2
  obtain ⟨rfl,rfl⟩:v'=v2∧w'=w2:=by simpa using hr2
  exact .inr (ho2.lt k hk).1
 ·subst hsize
  by_cases hroom:n+m≤cap
  ·have hfit:n*i.size+news.length≤cur.size:=by rw [hl,hcs,← Nat.add_mul];exact Nat.mul_le_mul_right _ hroom
   have hr2:=run_append_room (P:=P) w t ty e i ht hi g n cap cur hg a m c news hl hnews h1 hroom hfit
   rw [hr2] at hr
   have:v'=.slice (some ⟨g,0,none⟩) (n+m) cap:=by simp at hr;exact hr.1.symm
   subst this
   exact .inl hk
  ·have hr2:=run_append_grow (P:=P) w t ty e i z ht hi hz ⟨g,0,none⟩ n cap xs hown.1 (hown.cells (g:=g) rfl) a m c news hl hnews (by omega) (by unfold maxLen at h63;omega) (growslice_fits (by omega) (by rw [hby];exact hbytes))
   rw [hr2] at hr
   have:v'.ownBlock=some w.heap.size:=by simp at hr;rw [← hr.1];rfl
   rw [this] at hk;cases hk
   exact .inr (Nat.le_refl _)
theorem wpList_append2 {ops:Array Oper}{rest:List Oper}{o:Oper}{a:Act}{Q:Exit→Act→World→Prop}(hgd:o.guard=none) (s x:Operand) (t:TypeId)
 (ho:o.op=.call { callee:=.builtin .append,args:=#[s,x],argTypes:=#[t,t] })
 (e:TypeId) (i:TypeInfo) (z:Value) (size bytes:Nat) (ht:P.underlying t=some (.slice e)) (hi:P.info? e=some i) (hz:i.zero=some z)
 (hsize:i.size=size) (hby:i.bytes=bytes) (hzs:z.cells.size=size) (hsz:0 < size)
 (v:Value) (n:Nat) (xs:List Value) (hs:a.eval s=v) (hown:w.ownsRow 0 e size v n xs)
 (ad:Addr) (m c:Nat) (news:List Value) (hx:a.eval x=.slice (some ad) m c) (hl:news.length=m*size) (hnews:∀ j u,news[j]?=some u→w.cell? (ad.add j)=some u) (h1:∀ u∈news,u.oneCell'=true)
 (h63:n+m≤maxLen) (hbytes:(n+m)*bytes≤140737488355328)
 (h:∀ v' w',w'.ownsRow 0 e size v' (n+m) (xs++news)→w.grownBy w' v.ownBlock→(∀ k,v'.ownBlock=some k→v.ownBlock=some k∨w.heap.size≤k)→wpList P ops Q rest (a.put o.dst v') w'):wpList P ops Q (o :: rest) a w :=
 wpList_plain hgd fun _ hK=>by
  obtain ⟨v',w',hr,h2,h3,h4⟩:=run_append_own (P:=P) w 0 t o.type e i z size bytes ht hi hz hsize hby hzs hsz v n xs hown ad m c news hl hnews h1 h63 hbytes (Nat.zero_le _)
  have h5:=append_fresh (P:=P) w 0 t o.type e i z size bytes ht hi hz hsize hby hzs hsz v n xs hown ad m c news hl hnews h1 h63 hbytes v' w' hr
  unfold Oper.wp execOp
  simp only [ho,resolve,invoke,builtin,Sem.run_bind,Sem.run_pure,Result.andThen_ok,List.map_toArray,List.map_cons,List.map_nil,hs,hx,hr]
  exact hK _ _ (h v' w' h2 h3 h5)
end Go.Proofs.YtddhmfildfdbdaaGreat
namespace Go.Proofs.YtddhmfildfdbdaaGreat
def partsB:List UInt8→List (List UInt8)
 | []=>[[]]
 | c :: t=>if c=47 then [] :: partsB t else match partsB t with
   | []=>[[c]]
   | p :: ps=>(c :: p) :: ps
theorem partsB_cons (c:UInt8) (t:List UInt8):partsB (c :: t)=if c=47 then [] :: partsB t else match partsB t with
 | []=>[[c]]
 | p :: ps=>(c :: p) :: ps:=rfl
theorem partsB_ne (l:List UInt8):partsB l≠[]:=by
 induction l with
 | nil=>simp [partsB]
 | cons c t ih =>
   unfold partsB
   split
   ·simp
   ·split <;> simp
theorem partsB_miss (l:List UInt8) (h:(47:UInt8) ∉ l):partsB l=[l]:=by
 induction l with
 | nil=>rfl
 | cons c t ih =>
   simp only [List.mem_cons,not_or] at h
   unfold partsB
   rw [if_neg (fun e=>h.1 e.symm),ih h.2]
theorem partsB_hit (a b:List UInt8) (h:(47:UInt8) ∉ a):partsB (a++47 :: b)=a :: partsB b:=by
 induction a with
 | nil=>simp [partsB]
 | cons c t ih =>
   simp only [List.mem_cons,not_or] at h
   rw [List.cons_append,partsB_cons,if_neg (fun e=>h.1 e.symm),ih h.2]
theorem partsB_free (l:List UInt8):∀ p∈partsB l,(47:UInt8) ∉ p:=by
 induction l with
 | nil=>simp [partsB]
 | cons c t ih =>
   unfold partsB
   split
   ·intro p hp;simp only [List.mem_cons] at hp;rcases hp with rfl | hp;simp;exact ih p hp
   ·rename_i hc
    split
    ·intro p hp;simp only [List.mem_singleton] at hp;subst hp;simpa using fun e=>hc e.symm
    ·rename_i q qs hq
     rw [hq] at ih
     intro p hp
     simp only [List.mem_cons] at hp
     rcases hp with rfl | hp
     ·simp only [List.mem_cons,not_or];exact ⟨fun e=>hc e.symm,ih q (by simp)⟩
     ·exact ih p (by simp [hp])
theorem split47 (l:List UInt8):(47:UInt8) ∉ l∨∃ a b,l=a++47 :: b∧(47:UInt8) ∉ a:=by
 induction l with
 | nil=>exact .inl (by simp)
 | cons c t ih =>
   by_cases hc:c=47
   ·exact .inr ⟨[],t,by simp [hc],by simp⟩
   ·rcases ih with h | ⟨a,b,rfl,h⟩
    ·exact .inl (by simp only [List.mem_cons,not_or];exact ⟨fun e=>hc e.symm,h⟩)
    ·exact .inr ⟨c :: a,b,rfl,by simp only [List.mem_cons,not_or];exact ⟨fun e=>hc e.symm,h⟩⟩
def joinB (ps:List (List UInt8)):List UInt8:=Lib.join ps [47]
theorem joinB_one (p:List UInt8):joinB [p]=p:=Lib.join_one p [47]
theorem joinB_cons2 (p q:List UInt8) (r:List (List UInt8)):joinB (p :: q :: r)=p++47 :: joinB (q :: r):=by
 unfold joinB
 rw [Lib.join_cons,Lib.join_cons]
 simp [Lib.joinTail]
theorem joinB_parts (l:List UInt8):joinB (partsB l)=l:=by
 induction l with
 | nil=>rfl
 | cons c t ih =>
   unfold partsB
   have hne:=partsB_ne t
   by_cases hc:c=47
   ·rw [if_pos hc]
    cases h:partsB t with
    | nil=>exact absurd h hne
    | cons p ps=>rw [joinB_cons2,← h,ih,hc];rfl
   ·rw [if_neg hc]
    cases h:partsB t with
    | nil=>exact absurd h hne
    | cons p ps =>
      rw [h] at ih
      cases ps with
      | nil=>rw [joinB_one] at ih;rw [joinB_one,ih]
      | cons q qs=>rw [joinB_cons2] at ih;rw [joinB_cons2,← ih];rfl
theorem parts_join (ps:List (List UInt8)) (hne:ps≠[]) (h:∀ p∈ps,(47:UInt8) ∉ p):partsB (joinB ps)=ps:=by
 induction ps with
 | nil=>exact absurd rfl hne
 | cons p r ih =>
   cases r with
   | nil=>rw [joinB_one,partsB_miss p (h p (by simp))]
   | cons q r =>
     rw [joinB_cons2,partsB_hit _ _ (h p (by simp)),ih (by simp) (fun x hx=>h x (by simp [hx]))]
theorem partsB_inj {a b:List UInt8}(h:partsB a=partsB b):a=b:=by rw [← joinB_parts a,h,joinB_parts b]
theorem partsB_length (l:List UInt8):(partsB l).length=l.countP (·=47)+1:=by
 induction l with
 | nil=>rfl
 | cons c t ih =>
   unfold partsB
   by_cases hc:c=47
   ·rw [if_pos hc,List.length_cons,ih,List.countP_cons];simp [hc]
   ·rw [if_neg hc,List.countP_cons]
    have hne:=partsB_ne t
    cases h:partsB t with
    | nil=>exact absurd h hne
    | cons p ps=>rw [h] at ih;simp only [List.length_cons] at ih ⊢;simp [hc];omega
theorem partsB_le (l:List UInt8):(partsB l).length≤l.length+1:=by
 rw [partsB_length]
 have:=List.countP_le_length (p:=fun c:UInt8=>decide (c=47)) (l:=l)
 omega
structure Ord3 {α:Type}(c:α→α→Int):Prop where
 anti:∀ a b,c b a=- c a b
 zero:∀ a b,c a b=0↔a=b
 trans:∀ a b d,c a b≤0→c b d≤0→c a d≤0
def lexC {α:Type}(c:α→α→Int):List α→List α→Int
 | [],[]=>0
 | [],_ :: _=>-1
 | _ :: _,[]=>1
 | a :: as,b :: bs=>if c a b=0 then lexC c as bs else c a b
theorem Ord3.lex {α:Type}{c:α→α→Int}(h:Ord3 c):Ord3 (lexC c):=by
 refine ⟨?_,?_,?_⟩
 ·intro a
  induction a with
  | nil=>intro b;cases b <;> simp [lexC]
  | cons x a ih =>
    intro b
    cases b with
    | nil=>simp [lexC]
    | cons y b =>
      simp only [lexC]
      rw [h.anti x y,ih b]
      by_cases hc:c x y=0
      ·simp [hc]
      ·rw [if_neg (by omega),if_neg hc]
 ·intro a
  induction a with
  | nil=>intro b;cases b <;> simp [lexC]
  | cons x a ih =>
    intro b
    cases b with
    | nil=>simp [lexC]
    | cons y b =>
      simp only [lexC,List.cons.injEq]
      by_cases hc:c x y=0
      ·rw [if_pos hc,ih b];simp [(h.zero x y).1 hc]
      ·rw [if_neg hc];constructor
       ·intro e;exact absurd e hc
       ·rintro ⟨e,_⟩;exact absurd ((h.zero x y).2 e) hc
 ·intro a
  induction a with
  | nil=>intro b d _ _;cases d <;> simp [lexC]
  | cons x a ih =>
    intro b d hab hbd
    cases b with
    | nil=>simp [lexC] at hab
    | cons y b =>
      cases d with
      | nil=>simp [lexC] at hbd
      | cons z d =>
        simp only [lexC] at hab hbd ⊢
        have hxy:c x y≤0:=by by_cases e:c x y=0 <;> simp [e] at hab <;> omega
        have hyz:c y z≤0:=by by_cases e:c y z=0 <;> simp [e] at hbd <;> omega
        have hxz:=h.trans x y z hxy hyz
        by_cases e:c x z=0
        ·rw [if_pos e]
         have:=(h.zero x z).1 e
         subst this
         have hyx:=h.anti x y
         have e1:c x y=0:=by omega
         rw [if_pos e1] at hab
         have:=(h.zero x y).1 e1
         subst this
         rw [if_pos e] at hbd
         exact ih b d hab hbd
        ·rw [if_neg e];exact hxz
theorem Ord3.strict {α:Type}{c:α→α→Int}(h:Ord3 c) {x y z:α}(h1:c x y≤0) (h2:c y z≤0):c x z≤0∧(c x z < 0∨(c x y=0∧c y z=0)):=by
 have h3:=h.trans x y z h1 h2
 refine ⟨h3,?_⟩
 by_cases e:c x z=0
 ·right
  have:=(h.zero x z).1 e
  subst this
  have:=h.anti x y
  omega
 ·left;omega
def cmp8 (a b:UInt8):Int:=if a < b then -1 else if b < a then 1 else 0
theorem ord8:Ord3 cmp8:=by
 refine ⟨?_,?_,?_⟩
 ·intro a b
  unfold cmp8
  simp only [UInt8.lt_iff_toNat_lt]
  split <;> split <;> first | rfl | omega | (split <;> first | rfl | omega) | skip
 ·intro a b
  unfold cmp8
  rw [← UInt8.toNat_inj]
  simp only [UInt8.lt_iff_toNat_lt]
  split
  ·constructor <;> intro h <;> omega
  ·split
   ·constructor <;> intro h <;> omega
   ·constructor <;> intro h <;> omega
 ·intro a b d
  unfold cmp8
  simp only [UInt8.lt_iff_toNat_lt]
  intro h1 h2
  split
  ·omega
  ·split
   ·split at h1
    ·split at h2
     ·omega
     ·split at h2 <;> omega
    ·split at h1
     ·omega
     ·split at h2
      ·omega
      ·split at h2 <;> omega
   ·omega
theorem compare_lex:∀ a b:List UInt8,Lib.compareBytes a b=lexC cmp8 a b
 | [],[]=>rfl
 | [],_ :: _=>rfl
 | _ :: _,[]=>rfl
 | x :: a,y :: b=>by
   unfold Lib.compareBytes lexC
   rw [compare_lex a b]
   unfold cmp8
   split
   ·simp
   ·split <;> simp
theorem ordB:Ord3 Lib.compareBytes:=by
 have:Lib.compareBytes=lexC cmp8:=by funext a b;exact compare_lex a b
 rw [this];exact ord8.lex
def cmpP:List (List UInt8)→List (List UInt8)→Int:=lexC Lib.compareBytes
theorem ordP:Ord3 cmpP:=ordB.lex
def cmpT (a b:List UInt8):Int:=cmpP (partsB a) (partsB b)
theorem ordT:Ord3 cmpT :=
 ⟨fun a b=>ordP.anti _ _,fun a b=>⟨fun h=>partsB_inj ((ordP.zero _ _).1 h),fun h=>by rw [h];exact (ordP.zero _ _).2 rfl⟩,fun a b d=>ordP.trans _ _ _⟩
theorem compare_vals (a b:List UInt8):Lib.compareBytes a b=-1∨Lib.compareBytes a b=0∨Lib.compareBytes a b=1:=by
 fun_induction Lib.compareBytes a b <;> simp_all
theorem cmpP_vals (a b:List (List UInt8)):cmpP a b=-1∨cmpP a b=0∨cmpP a b=1:=by
 unfold cmpP
 induction a generalizing b with
 | nil=>cases b <;> simp [lexC]
 | cons x a ih =>
   cases b with
   | nil=>simp [lexC]
   | cons y b =>
     simp only [lexC]
     split
     ·exact ih b
     ·exact compare_vals x y
def resB:List (List UInt8)→List (List UInt8)→Option (List (List UInt8))
 | k,[]=>some k
 | k,p :: ps=>if p=[]∨p=[46] then resB k ps else if p=[46,46] then (if k=[] then none else resB k.dropLast ps) else resB (k++[p]) ps
def letB (point:Bool) (c:UInt8):Bool:=(97≤c && c≤122) || (48≤c && c≤57) || c==95 || c==45 || (point && c==46)
def wordB (point:Bool) (l:List UInt8):Bool:=0 < l.length && l.length≤24 && l.all (letB point)
def finB (k:List (List UInt8)):Option (List UInt8) :=
 if k=[]∨8 < k.length then none else if k.all (wordB true)=true∧(joinB k).length≤64 then some (joinB k) else none
def normB (l:List UInt8):Option (List UInt8):=(resB [] (partsB l)).bind finB
def Stays (p:List UInt8):Prop:=p≠[]∧p≠[46]∧p≠[46,46]∧(47:UInt8) ∉ p
theorem resB_stays (k ps r:List (List UInt8)) (hk:∀ p∈k,Stays p) (hp:∀ p∈ps,(47:UInt8) ∉ p) (h:resB k ps=some r):∀ p∈r,Stays p:=by
 induction ps generalizing k with
 | nil=>simp only [resB,Option.some.injEq] at h;subst h;exact hk
 | cons q ps ih =>
   simp only [resB] at h
   have hps:∀ p∈ps,(47:UInt8) ∉ p:=fun p h=>hp p (by simp [h])
   split at h
   ·exact ih k hk hps h
   ·rename_i h1
    simp only [not_or] at h1
    split at h
    ·split at h
     ·cases h
     ·exact ih _ (fun p h=>hk p (List.dropLast_subset k h)) hps h
    ·rename_i h2
     refine ih _ ?_ hps h
     intro p hm
     simp only [List.mem_append,List.mem_singleton] at hm
     rcases hm with hm | rfl
     ·exact hk p hm
     ·exact ⟨h1.1,h1.2,h2,hp p (by simp)⟩
theorem finB_some {k:List (List UInt8)}{p:List UInt8}(h:finB k=some p):k≠[]∧k.length≤8∧k.all (wordB true)=true∧(joinB k).length≤64∧p=joinB k:=by
 unfold finB at h
 split at h
 ·cases h
 ·rename_i h1
  simp only [not_or] at h1
  split at h
  ·rename_i h2;simp only [Option.some.injEq] at h;exact ⟨h1.1,by omega,h2.1,h2.2,h.symm⟩
  ·cases h
theorem normB_some {l p:List UInt8}(h:normB l=some p):∃ k,resB [] (partsB l)=some k∧finB k=some p∧(∀ q∈k,Stays q)∧partsB p=k:=by
 unfold normB at h
 cases hr:resB [] (partsB l) with
 | none=>rw [hr] at h;cases h
 | some k =>
   rw [hr] at h
   have hf:finB k=some p:=h
   have hs:=resB_stays [] _ k (by simp) (partsB_free l) hr
   obtain ⟨h1,h2,h3,h4,rfl⟩:=finB_some hf
   exact ⟨k,rfl,hf,hs,parts_join k h1 (fun q hq=>(hs q hq).2.2.2)⟩
theorem normB_len {l p:List UInt8}(h:normB l=some p):p.length≤64:=by
 obtain ⟨k,h1,h2,h3,h4⟩:=normB_some h
 obtain ⟨_,_,_,h5,rfl⟩:=finB_some h2
 exact h5
structure Ch where
 p:List UInt8
 g:Bool
 d:Int
deriving DecidableEq
def Ris (L:List Ch):Prop:=L.Pairwise fun a b=>cmpT a.p b.p≤0
def ofP (k:List UInt8) (L:List Ch):List Ch:=L.filter fun x=>decide (x.p=k)
def Alike (L M:List Ch):Prop:=∀ k,ofP k L=ofP k M
theorem Alike.refl (L:List Ch):Alike L L:=fun _=>rfl
theorem Alike.symm {L M:List Ch}(h:Alike L M):Alike M L:=fun k=>(h k).symm
theorem Alike.trans {L M K:List Ch}(h:Alike L M) (h2:Alike M K):Alike L K:=fun k=>(h k).trans (h2 k)
theorem ofP_app (k:List UInt8) (L M:List Ch):ofP k (L++M)=ofP k L++ofP k M:=List.filter_append ..
theorem Alike.app {L L' M M':List Ch}(h:Alike L L') (h2:Alike M M'):Alike (L++M) (L'++M'):=fun k=>by
 rw [ofP_app,ofP_app,h k,h2 k]
theorem ofP_none {k:List UInt8}{L:List Ch}(h:∀ x∈L,x.p≠k):ofP k L=[]:=by
 unfold ofP
 rw [List.filter_eq_nil_iff]
 intro x hx
 simpa using h x hx
theorem Alike.swap {U V:List Ch}(h:∀ u∈U,∀ v∈V,u.p≠v.p):Alike (U++V) (V++U):=fun k=>by
 rw [ofP_app,ofP_app]
 by_cases hu:∃ u∈U,u.p=k
 ·obtain ⟨u,hu,rfl⟩:=hu
  rw [ofP_none (L:=V) (fun v hv e=>h u hu v hv e.symm)];simp
 ·rw [ofP_none (L:=U) (fun u h2 e=>hu ⟨u,h2,e⟩)];simp
theorem Alike.mem {L M:List Ch}(h:Alike L M) (x:Ch):x∈L↔x∈M:=by
 have e:∀ K:List Ch,x∈K↔x∈ofP x.p K:=fun K=>by simp [ofP]
 rw [e L,e M,h]
theorem Alike.perm {L M:List Ch}(h:Alike L M):L.Perm M:=by
 rw [List.perm_iff_count]
 intro x
 have e:∀ K:List Ch,K.count x=(ofP x.p K).count x:=fun K=>by
  unfold ofP;rw [List.count_filter];simp
 rw [e L,e M,h]
theorem Alike.length {L M:List Ch}(h:Alike L M):L.length=M.length:=h.perm.length_eq
theorem cmpT_le {a b c:List UInt8}(h1:cmpT a b≤0) (h2:cmpT b c≤0):cmpT a c≤0:=(ordT.strict h1 h2).1
theorem cmpT_eq {a b:List UInt8}(h1:cmpT a b≤0) (h2:cmpT b a≤0):a=b:=by
 apply (ordT.zero a b).1
 have:=ordT.anti a b
 omega
theorem cmpT_refl (a:List UInt8):cmpT a a=0:=(ordT.zero a a).2 rfl
theorem cmpT_ne {a b:List UInt8}(h:cmpT a b < 0):a≠b:=fun e=>by subst e;rw [cmpT_refl] at h;omega
theorem cmpT_not {a b:List UInt8}(h:¬ cmpT a b < 0):cmpT b a≤0:=by
 have:=ordT.anti a b
 omega
theorem Alike.one {L M:List Ch}(h:Alike L M) (hL:Ris L) (hM:Ris M):L=M:=by
 induction L generalizing M with
 | nil =>
   cases M with
   | nil=>rfl
   | cons y M=>have:=h.length;simp at this
 | cons x L ih =>
   cases M with
   | nil=>have:=h.length;simp at this
   | cons y M =>
     have hx:x∈y :: M:=(h.mem x).1 (by simp)
     have hy:y∈x :: L:=(h.mem y).2 (by simp)
     have h1:cmpT y.p x.p≤0:=by
      rcases List.mem_cons.1 hx with e | hx
      ·rw [e,cmpT_refl];omega
      ·exact (List.pairwise_cons.1 hM).1 x hx
     have h2:cmpT x.p y.p≤0:=by
      rcases List.mem_cons.1 hy with e | hy
      ·rw [e,cmpT_refl];omega
      ·exact (List.pairwise_cons.1 hL).1 y hy
     have e:x.p=y.p:=cmpT_eq h2 h1
     have h3:=h x.p
     have e1:ofP x.p (x :: L)=x :: ofP x.p L:=by simp [ofP]
     have e2:ofP x.p (y :: M)=y :: ofP x.p M:=by simp [ofP,e]
     rw [e1,e2] at h3
     obtain ⟨rfl,_⟩:=List.cons.inj h3
     congr 1
     refine ih (fun k=>?_) (List.pairwise_cons.1 hL).2 (List.pairwise_cons.1 hM).2
     have h4:=h k
     by_cases hk:x.p=k
     ·subst hk;rw [e1,e2] at h4;exact (List.cons.inj h4).2
     ·simpa [ofP,hk] using h4
def seg (f:Nat→Ch) (a b:Nat):List Ch:=(List.range' a (b - a)).map f
theorem seg_length (f:Nat→Ch) (a b:Nat):(seg f a b).length=b - a:=by simp [seg]
theorem seg_get (f:Nat→Ch) (a b i:Nat) (h:i < (seg f a b).length):(seg f a b)[i]=f (a+i):=by simp [seg]
theorem seg_app (f:Nat→Ch) {a m b:Nat}(h1:a≤m) (h2:m≤b):seg f a b=seg f a m++seg f m b:=by
 unfold seg
 rw [← List.map_append]
 congr 1
 rw [show b - a=(m - a)+(b - m) by omega,← List.range'_append]
 congr 2
 omega
theorem seg_same {f g:Nat→Ch}{a b:Nat}(h:∀ k,a≤k→k < b→f k=g k):seg f a b=seg g a b:=by
 unfold seg
 apply List.map_congr_left
 intro k hk
 rw [List.mem_range'_1] at hk
 exact h k hk.1 (by omega)
theorem seg_one (f:Nat→Ch) (a:Nat):seg f a (a+1)=[f a]:=by
 unfold seg;rw [show a+1 - a=1 by omega];rfl
theorem seg_shift {f g:Nat→Ch}{a b c:Nat}(h:∀ k,k < b - a→f (a+k)=g (c+k)):seg f a b=seg g c (c+(b - a)):=by
 apply List.ext_getElem
 ·rw [seg_length,seg_length];omega
 ·intro i h1 h2
  rw [seg_get,seg_get]
  rw [seg_length] at h1
  exact h i h1
theorem mem_seg {f:Nat→Ch}{a b:Nat}{x:Ch}:x∈seg f a b↔∃ k,a≤k∧k < b∧f k=x:=by
 unfold seg
 rw [List.mem_map]
 constructor
 ·rintro ⟨k,hk,rfl⟩
  rw [List.mem_range'_1] at hk
  exact ⟨k,hk.1,by omega,rfl⟩
 ·rintro ⟨k,h1,h2,rfl⟩
  exact ⟨k,by rw [List.mem_range'_1];omega,rfl⟩
def RisF (f:Nat→Ch) (a b:Nat):Prop:=∀ p q,a≤p→p < q→q < b→cmpT (f p).p (f q).p≤0
theorem RisF.ris {f:Nat→Ch}{a b:Nat}(h:RisF f a b):Ris (seg f a b):=by
 unfold Ris
 rw [List.pairwise_iff_getElem]
 intro i j hi hj hij
 rw [seg_get,seg_get]
 rw [seg_length] at hi hj
 exact h _ _ (by omega) (by omega) (by omega)
structure AlikeF (f g:Nat→Ch) (a b:Nat):Prop where
 alike:Alike (seg f a b) (seg g a b)
 same:∀ k,k < a∨b≤k→g k=f k
theorem AlikeF.refl (f:Nat→Ch) (a b:Nat):AlikeF f f a b:=⟨Alike.refl _,fun _ _=>rfl⟩
theorem AlikeF.trans {f g h:Nat→Ch}{a b:Nat}(h1:AlikeF f g a b) (h2:AlikeF g h a b):AlikeF f h a b :=
 ⟨h1.alike.trans h2.alike,fun k hk=>(h2.same k hk).trans (h1.same k hk)⟩
theorem AlikeF.wide {f g:Nat→Ch}{a b c d:Nat}(h:AlikeF f g c d) (h1:a≤c) (h2:c≤d) (h3:d≤b):AlikeF f g a b:=by
 refine ⟨?_,fun k hk=>h.same k (by omega)⟩
 rw [seg_app f h1 (by omega:c≤b),seg_app g h1 (by omega:c≤b),seg_app f h2 h3,seg_app g h2 h3]
 have e1:seg g a c=seg f a c:=seg_same fun k _ hk=>h.same k (by omega)
 have e2:seg g d b=seg f d b:=seg_same fun k hk _=>h.same k (by omega)
 rw [e1,e2]
 exact (Alike.refl _).app (h.alike.app (Alike.refl _))
theorem AlikeF.find {f g:Nat→Ch}{a b:Nat}(h:AlikeF f g a b) {k:Nat}(h1:a≤k) (h2:k < b):∃ j,a≤j∧j < b∧f j=g k :=
 mem_seg.1 ((h.alike.mem (g k)).2 (mem_seg.2 ⟨k,h1,h2,rfl⟩))
def swp (f:Nat→Ch) (i j:Nat):Nat→Ch:=fun k=>if k=i then f j else if k=j then f i else f k
theorem swp_alike (f:Nat→Ch) (j:Nat) (h:(f j).p≠(f (j+1)).p):AlikeF f (swp f j (j+1)) j (j+2):=by
 refine ⟨?_,fun k hk=>?_⟩
 ·have e:∀ g:Nat→Ch,seg g j (j+2)=[g j]++[g (j+1)]:=fun g=>by
   rw [seg_app g (by omega:j≤j+1) (by omega),seg_one,show j+2=j+1+1 from rfl,seg_one]
  rw [e,e]
  have e1:swp f j (j+1) j=f (j+1):=by simp [swp]
  have e2:swp f j (j+1) (j+1)=f j:=by simp [swp]
  rw [e1,e2]
  exact Alike.swap (by simpa using h)
 ·simp only [swp]
  rw [if_neg (by omega),if_neg (by omega)]
theorem swp_comm (f:Nat→Ch) (i j:Nat):swp f i j=swp f j i:=by
 funext k
 simp only [swp]
 by_cases h1:k=i <;> by_cases h2:k=j <;> simp_all
open Go.RowKit
structure Kept (S:List Nat) (w w':World):Prop where
 os:w'.os=w.os
 tape:w'.tape=w.tape
 output:w'.output=w.output
 size:w.heap.size≤w'.heap.size
 block:∀ k,k < w.heap.size→k ∉ S→w'.heap[k]?=w.heap[k]?
theorem Kept.refl (S:List Nat) (w:World):Kept S w w:=⟨rfl,rfl,rfl,Nat.le_refl _,fun _ _ _=>rfl⟩
theorem Kept.trans {S T:List Nat}{a b c:World}(h:Kept S a b) (k:Kept T b c) (hT:∀ i∈T,i∈S∨a.heap.size≤i):Kept S a c :=
 ⟨k.os.trans h.os,k.tape.trans h.tape,k.output.trans h.output,Nat.le_trans h.size k.size,fun i hi hS=>by
  rw [k.block i (Nat.lt_of_lt_of_le hi h.size) (fun hm=>by rcases hT i hm with h1 | h1;exact hS h1;omega),h.block i hi hS]⟩
theorem Kept.mono {S T:List Nat}{a b:World}(h:Kept S a b) (hT:∀ i∈S,i∈T∨a.heap.size≤i):Kept T a b :=
 (Kept.refl T a).trans h hT
theorem Kept.drew {S:List Nat}{a w:World}(h:Kept S a w):Kept S a w.drew:=⟨h.os,h.tape,h.output,h.size,h.block⟩
theorem Kept.alloc {S:List Nat}{a w:World}(h:Kept S a w) (o:Obj):Kept S a (w.alloc o) :=
 h.trans (T:=[]) ⟨rfl,rfl,rfl,by simp,fun k hk _=>Below.heap_alloc _ _ _ hk⟩ (by simp)
theorem Kept.setCell {S:List Nat}{a w:World}(h:Kept S a w) {p:Addr}(hp:p.block∈S∨a.heap.size≤p.block) (u:Value):Kept S a (w.setCell p u) :=
 h.trans (T:=[p.block]) ⟨rfl,rfl,rfl,by simp [World.setCell],fun k _ hk=>Below.heap_setCell _ _ _ _ (by simpa using hk)⟩ (by simpa using hp)
theorem Kept.grown {S:List Nat}{a w w':World}{row:Option Nat}(h:Kept S a w) (hg:w.grownBy w' row) (hr:∀ k,row=some k→k∈S∨a.heap.size≤k):Kept S a w' :=
 ⟨hg.os.trans h.os,hg.tape.trans h.tape,hg.output.trans h.output,Nat.le_trans h.size hg.size,fun i hi hS=>by
  rw [hg.block i (Nat.lt_of_lt_of_le hi h.size) (fun e=>by rcases hr i e.symm with h1 | h1;exact hS h1;omega),h.block i hi hS]⟩
theorem Kept.drewN {S:List Nat}{a w:World}(h:Kept S a w) (n:Nat):Kept S a (w.drewN n):=⟨h.os,h.tape,h.output,h.size,h.block⟩
theorem Kept.below {S:List Nat}{a w:World}(h:Kept S a w) {B:Nat}(hB:B≤a.heap.size) (hS:∀ i∈S,B≤i):Below B a w :=
 ⟨h.os,h.tape,h.output,h.size,fun k hk=>h.block k (by omega) (fun hm=>by have:=hS k hm;omega)⟩
theorem Kept.of_below {S:List Nat}{a w:World}(h:Below a.heap.size a w):Kept S a w :=
 ⟨h.os,h.tape,h.output,h.size,fun k hk _=>h.block k hk⟩
theorem Kept.cell {S:List Nat}{a w:World}(h:Kept S a w) {p:Addr}{v:Value}(hc:a.cell? p=some v) (hS:p.block ∉ S):w.cell? p=some v:=by
 have hb:p.block < a.heap.size:=by
  unfold World.cell? at hc
  by_cases hlt:p.block < a.heap.size
  ·exact hlt
  ·rw [Array.getElem?_eq_none (by omega)] at hc;simp at hc
 rw [← hc];exact World.cell?_of_block (w:=a) (h.block _ hb hS)
theorem Kept.at {S:List Nat}{a w:World}(h:Kept S a w) {k:Nat}{o:Obj}(hc:a.heap[k]?=some o) (hS:k ∉ S):w.heap[k]?=some o:=by
 have hb:k < a.heap.size:=by
  by_cases hlt:k < a.heap.size
  ·exact hlt
  ·rw [Array.getElem?_eq_none (by omega)] at hc;simp at hc
 rw [← hc];exact h.block _ hb hS
theorem lt_of_at {w:World}{k:Nat}{o:Obj}(hc:w.heap[k]?=some o):k < w.heap.size:=by
 by_cases hlt:k < w.heap.size
 ·exact hlt
 ·rw [Array.getElem?_eq_none (by omega)] at hc;simp at hc
theorem Kept.ownsRow {S:List Nat}{a w:World}(h:Kept S a w) {base:Nat}{e:TypeId}{size:Nat}{v:Value}{n:Nat}{xs:List Value}
 (ho:a.ownsRow base e size v n xs) (hS:∀ k,v.ownBlock=some k→k ∉ S):w.ownsRow base e size v n xs:=by
 obtain ⟨h1,h2⟩:=ho
 refine ⟨h1,?_⟩
 rcases h2 with h2 | ⟨g,cap,cur,hv,hg,hh,r⟩
 ·exact .inl h2
 ·exact .inr ⟨g,cap,cur,hv,hg,h.at hh (hS g (by rw [hv];rfl)),r⟩
def Sl (w:World) (ao:Option Addr) (n c:Nat) (l:List Int):Prop :=
 l.length=n∧n≤c∧c≤maxLen∧(ao=none→c=0)∧∀ i,i < n→∃ b o,ao=some ⟨b,o,none⟩∧w.cell? ⟨b,o+i,none⟩=some (.int .u8 (l.getD i 0))
def blk:Option Addr→List Nat
 | some a=>[a.block]
 | none=>[]
theorem Sl.nil (w:World):Sl w none 0 0 []:=⟨rfl,Nat.le_refl _,Nat.zero_le _,fun _=>rfl,fun i hi=>by omega⟩
theorem Sl.kept {S:List Nat}{a w:World}(h:Kept S a w) {ao:Option Addr}{n c:Nat}{l:List Int}(hs:Sl a ao n c l) (hS:∀ k∈blk ao,k ∉ S):Sl w ao n c l:=by
 obtain ⟨h1,h2,h3,h4,h5⟩:=hs
 refine ⟨h1,h2,h3,h4,fun i hi=>?_⟩
 obtain ⟨b,o,e,hc⟩:=h5 i hi
 exact ⟨b,o,e,h.cell hc (hS b (by rw [e];simp [blk]))⟩
theorem Sl.some {w:World}{ao:Option Addr}{n c:Nat}{l:List Int}(hs:Sl w ao n c l) (hn:0 < n) :
 ∃ b o,ao=some ⟨b,o,none⟩∧∀ i,i < n→w.cell? ⟨b,o+i,none⟩=some (.int .u8 (l.getD i 0)):=by
 obtain ⟨h1,h2,h3,h4,h5⟩:=hs
 obtain ⟨b,o,e,_⟩:=h5 0 hn
 refine ⟨b,o,e,fun i hi=>?_⟩
 obtain ⟨b',o',e',hc⟩:=h5 i hi
 rw [e] at e';cases e';exact hc
theorem Sl.of_owns {w:World}{base e:Nat}{v:Value}{l:List Int}(ho:w.ownsRow base e 1 v l.length (l.map (Value.int .u8))) :
 ∃ ao c,v=.slice ao l.length c∧Sl w ao l.length c l∧(∀ k∈blk ao,base≤k∧k < w.heap.size∧v.ownBlock=Option.some k):=by
 obtain ⟨h1,h2⟩:=ho
 rcases h2 with ⟨hv,hn⟩ | ⟨g,cap,cur,hv,hg,hh,h3,h4,h5,h6⟩
 ·refine ⟨none,0,by rw [hv,hn],?_,by simp [blk]⟩
  have:l=[]:=by simpa using hn
  subst this;exact Sl.nil w
 ·refine ⟨Option.some ⟨g,0,none⟩,cap,hv,⟨rfl,h3,h4,by simp,fun i hi=>⟨g,0,rfl,?_⟩⟩,?_⟩
  ·have hl:l.length*1=l.length:=by omega
   have:w.cell? ⟨g,i,none⟩=(l.map (Value.int .u8))[i]?:=World.ownsRow.cellAt (base:=base) (e:=e) (size:=1) (n:=l.length) (cap:=cap) ⟨h1,.inr ⟨g,cap,cur,rfl,hg,hh,h3,h4,h5,h6⟩⟩ i (by omega)
   rw [Nat.zero_add,this]
   simp [List.getD,List.getElem?_eq_getElem hi]
  ·intro k hk
   simp [blk] at hk;subst hk
   exact ⟨hg,lt_of_at hh,by rw [hv];rfl⟩
theorem Sl.take {w:World}{ao:Option Addr}{n c:Nat}{l:List Int}(hs:Sl w ao n c l) {k:Nat}(hk:k≤n):Sl w ao k c (l.take k):=by
 obtain ⟨h1,h2,h3,h4,h5⟩:=hs
 refine ⟨by simp;omega,by omega,h3,h4,fun i hi=>?_⟩
 obtain ⟨b,o,e,hc⟩:=h5 i (by omega)
 exact ⟨b,o,e,by rw [hc];simp [List.getD,hi]⟩
theorem Sl.drop {w:World}{ao:Option Addr}{n c:Nat}{l:List Int}(hs:Sl w ao n c l) {k:Nat}(hk:k≤n):Sl w (Option.map (fun x=>x.add k) ao) (n - k) (c - k) (l.drop k):=by
 obtain ⟨h1,h2,h3,h4,h5⟩:=hs
 refine ⟨by simp;omega,by omega,by omega,fun h=>?_,fun i hi=>?_⟩
 ·cases ao with
  | none=>have:=h4 rfl;omega
  | some a=>simp at h
 obtain ⟨b,o,e,hc⟩:=h5 (k+i) (by omega)
 refine ⟨b,o+k,by rw [e];by_cases hk0:k=0 <;> simp [Addr.add,hk0],?_⟩
 rw [Nat.add_assoc,hc]
 simp [List.getD,List.getElem?_drop]
theorem Sl.drop_all {w:World}{ao:Option Addr}{n c:Nat}{l:List Int}(hs:Sl w ao n c l) {k:Nat}(hk:n≤k):Sl w ao (n - k) 0 (l.drop k):=by
 obtain ⟨h1,h2,h3,h4,h5⟩:=hs
 refine ⟨by simp;omega,by omega,Nat.zero_le _,fun _=>rfl,fun i hi=>by omega⟩
theorem blk_add (ao:Option Addr) (k:Nat):blk (Option.map (fun x=>x.add k) ao)=blk ao:=by
 cases ao with
 | none=>rfl
 | some a=>by_cases hk0:k=0 <;> simp [blk,Addr.add,hk0]
theorem Sl.of_owns' {w:World}{base e:Nat}{v:Value}{l:List Int}(ho:w.ownsRow base e 1 v l.length (l.map (Value.int .u8))) :
 ∃ ao n c,v=.slice ao n c∧Sl w ao n c l∧(∀ k∈blk ao,base≤k∧k < w.heap.size∧v.ownBlock=Option.some k):=by
 obtain ⟨ao,c,h1,h2,h3⟩:=Sl.of_owns ho
 exact ⟨ao,l.length,c,h1,h2,h3⟩
theorem Sl.lit {w:World}{vs:Array Value}{t:TypeId}{mk:Nat × Nat}{n:Nat}{l:List Int}(hn:l.length=n) (h:vs=(l.map (Value.int .u8)).toArray) (hb:n≤maxLen):Sl (w.alloc (.cells vs t mk)) (Option.some ⟨w.heap.size,0,none⟩) n n l:=by
 subst hn;subst h
 refine ⟨rfl,Nat.le_refl _,hb,by simp,fun i hi=>⟨w.heap.size,0,rfl,?_⟩⟩
 rw [World.cell?_alloc_mark]
 simp [List.getD,List.getElem?_eq_getElem hi]
def str (l:List UInt8):ByteArray:=⟨l.toArray⟩
theorem str_data (l:List UInt8):(str l).data.toList=l:=by simp [str]
theorem str_size (l:List UInt8):(str l).size=l.length:=by rw [Lib.size_eq,str_data]
theorem str_inj {a b:List UInt8}(h:str a=str b):a=b:=by rw [← str_data a,h,str_data]
def insC (x:Ch):List Ch→List Ch
 | []=>[x]
 | y :: L=>if cmpT y.p x.p≤0 then y :: insC x L else x :: y :: L
def sortC (L:List Ch):List Ch:=L.foldl (fun M x=>insC x M) []
theorem mem_insC {x z:Ch}{L:List Ch}(h:z∈insC x L):z=x∨z∈L:=by
 induction L with
 | nil=>simp [insC] at h;exact .inl h
 | cons y L ih =>
   simp only [insC] at h
   split at h
   ·rcases List.mem_cons.1 h with rfl | h
    ·exact .inr (by simp)
    ·rcases ih h with e | e
     ·exact .inl e
     ·exact .inr (by simp [e])
   ·rcases List.mem_cons.1 h with rfl | h
    ·exact .inl rfl
    ·exact .inr h
theorem insC_ris (x:Ch) {L:List Ch}(h:Ris L):Ris (insC x L):=by
 induction L with
 | nil=>simp [insC,Ris]
 | cons y L ih =>
   unfold Ris at h ih ⊢
   rw [List.pairwise_cons] at h
   simp only [insC]
   split
   ·rename_i hc
    rw [List.pairwise_cons]
    refine ⟨fun z hz=>?_,ih h.2⟩
    rcases mem_insC hz with rfl | hz
    ·exact hc
    ·exact h.1 z hz
   ·rename_i hc
    have h1:cmpT x.p y.p≤0:=by have:=ordT.anti x.p y.p;omega
    rw [List.pairwise_cons]
    refine ⟨fun z hz=>?_,by rw [List.pairwise_cons];exact h⟩
    rcases List.mem_cons.1 hz with rfl | hz
    ·exact h1
    ·exact cmpT_le h1 (h.1 z hz)
theorem insC_alike (x:Ch) {L:List Ch}(h:Ris L):Alike (L++[x]) (insC x L):=by
 induction L with
 | nil=>exact Alike.refl _
 | cons y L ih =>
   unfold Ris at h ih
   rw [List.pairwise_cons] at h
   simp only [insC]
   split
   ·exact (Alike.refl [y]).app (ih h.2)
   ·rename_i hc
    refine Alike.swap (U:=y :: L) (V:=[x]) fun u hu v hv e=>?_
    simp at hv
    subst hv
    apply hc
    rcases List.mem_cons.1 hu with rfl | hu
    ·rw [e,cmpT_refl];omega
    ·rw [← e];exact h.1 u hu
theorem sortC_snoc (L:List Ch) (x:Ch):sortC (L++[x])=insC x (sortC L):=by simp [sortC]
theorem sortC_all (L:List Ch):Ris (sortC L)∧Alike L (sortC L):=by
 rw [← List.reverse_reverse L]
 induction L.reverse with
 | nil=>exact ⟨by simp [sortC,Ris],Alike.refl _⟩
 | cons x M ih =>
   rw [List.reverse_cons,sortC_snoc]
   exact ⟨insC_ris x ih.1,(ih.2.app (Alike.refl [x])).trans (insC_alike x ih.1)⟩
theorem sortC_ris (L:List Ch):Ris (sortC L):=(sortC_all L).1
theorem sortC_alike (L:List Ch):Alike L (sortC L):=(sortC_all L).2
def mayB (x:Ch):Bool:=decide (normB x.p=some x.p) && !(x.g && !(x.d==0))
def CheckOK (L:List Ch):Prop:=0 < L.length∧L.length≤16∧∀ i (hi:i < L.length),mayB L[i]=true∧∀ k (hk:k < i),L[k].p≠L[i].p
noncomputable def errC (L:List Ch):Int:=@ite _ (CheckOK L) (Classical.propDecidable _) 0 1
theorem errC_ok {L:List Ch}(h:CheckOK L):errC L=0:=by unfold errC;rw [if_pos h]
theorem errC_bad {L:List Ch}(h:¬ CheckOK L):errC L=1:=by unfold errC;rw [if_neg h]
theorem errC_zero {L:List Ch}:errC L=0↔CheckOK L:=by
 by_cases h:CheckOK L
 ·simp [errC_ok h,h]
 ·simp [errC_bad h,h]
theorem checkOK_iff (L:List Ch):CheckOK L↔0 < L.length∧L.length≤16∧(∀ x∈L,mayB x=true)∧(L.map Ch.p).Nodup:=by
 unfold CheckOK
 constructor
 ·rintro ⟨h1,h2,h3⟩
  refine ⟨h1,h2,fun x hx=>?_,?_⟩
  ·obtain ⟨i,hi,rfl⟩:=List.getElem_of_mem hx
   exact (h3 i hi).1
  ·rw [List.Nodup,List.pairwise_iff_getElem]
   intro i j hi hj hij
   simp only [List.length_map] at hi hj
   simp only [List.getElem_map]
   exact (h3 j hj).2 i hij
 ·rintro ⟨h1,h2,h3,h4⟩
  refine ⟨h1,h2,fun i hi=>⟨h3 _ (List.getElem_mem hi),fun k hk=>?_⟩⟩
  rw [List.Nodup,List.pairwise_iff_getElem] at h4
  have:=h4 k i (by simp;omega) (by simpa using hi) hk
  simpa using this
structure Com where
 r:Int
 b:Int
 n:List UInt8
 c:List Ch
deriving DecidableEq
structure Vt where
 c:Int
 s:Int
 r:Int
 p:List UInt8
 d:Int
 k:List Com
 m:Int
deriving DecidableEq
def vtC (c:Int):Vt:=⟨c,0,0,[],0,[],0⟩
def okC (x:Ch):Prop:=x.p.length≤140737488351232
def okK (x:Com):Prop:=x.n.length≤140737488351232∧x.c.length≤4398046510976∧∀ y∈x.c,okC y
def okV (v:Vt):Prop:=v.p.length≤140737488351232∧v.k.length≤2513169434843∧∀ x∈v.k,okK x
structure Lf where
 p:List UInt8
 d:Int
 r:Int
 g:Bool
deriving DecidableEq
inductive Tr where
 | nil
 | node (l:Tr) (x:Lf) (r:Tr)
namespace Tr
def size:Tr→Nat
 | nil=>0
 | node l _ r=>l.size+1+r.size
def height:Tr→Nat
 | nil=>0
 | node l _ r=>max l.height r.height+1
def list:Tr→List Lf
 | nil=>[]
 | node l x r=>l.list++x :: r.list
def lean:Tr→Int
 | nil=>0
 | node l _ r=>(r.height:Int) - l.height
def turnR:Tr→Tr
 | node (node a y b) x r=>node a y (node b x r)
 | t=>t
def turnL:Tr→Tr
 | node l x (node b y c)=>node (node l x b) y c
 | t=>t
def turnRR:Tr→Tr
 | node l x r=>turnR (node (turnL l) x r)
 | t=>t
def turnLL:Tr→Tr
 | node l x r=>turnL (node l x (turnR r))
 | t=>t
def left:Tr→Tr
 | nil=>nil
 | node l _ _=>l
def right:Tr→Tr
 | nil=>nil
 | node _ _ r=>r
def level (t:Tr):Tr :=
 if t.lean < -1 then (if 0 < t.left.lean then turnRR t else turnR t)
 else if 1 < t.lean then (if t.right.lean < 0 then turnLL t else turnL t) else t
def put (x:Lf):Tr→Tr
 | nil=>node nil x nil
 | node l y r=>if cmpT x.p y.p=-1 then level (node (put x l) y r) else if cmpT x.p y.p=1 then level (node l y (put x r)) else node l x r
def get (f:List UInt8):Tr→Option Lf
 | nil=>none
 | node l x r=>if cmpT f x.p=-1 then get f l else if cmpT f x.p=1 then get f r else some x
def bal:Tr→Prop
 | nil=>True
 | node l _ r=>l.bal∧r.bal∧l.height≤r.height+1∧r.height≤l.height+1
end Tr
theorem tr_size (t:Tr):t.list.length=t.size:=by
 induction t with
 | nil=>rfl
 | node l x r h1 h2=>simp [Tr.list,Tr.size,h1,h2];omega
theorem tr_height (t:Tr):t.height≤t.size:=by
 induction t with
 | nil=>exact Nat.le_refl _
 | node l x r h1 h2=>simp only [Tr.height,Tr.size];omega
theorem turnR_list (t:Tr):(Tr.turnR t).list=t.list:=by
 unfold Tr.turnR;split <;> simp [Tr.list]
theorem turnL_list (t:Tr):(Tr.turnL t).list=t.list:=by
 unfold Tr.turnL;split <;> simp [Tr.list]
theorem turnRR_list (t:Tr):(Tr.turnRR t).list=t.list:=by
 unfold Tr.turnRR;split
 ·rw [turnR_list];simp [Tr.list,turnL_list]
 ·rfl
theorem turnLL_list (t:Tr):(Tr.turnLL t).list=t.list:=by
 unfold Tr.turnLL;split
 ·rw [turnL_list];simp [Tr.list,turnR_list]
 ·rfl
theorem level_list (t:Tr):(Tr.level t).list=t.list:=by
 unfold Tr.level
 split
 ·split
  ·exact turnRR_list t
  ·exact turnR_list t
 ·split
  ·split
   ·exact turnLL_list t
   ·exact turnL_list t
  ·rfl
def Srt (L:List Lf):Prop:=L.Pairwise fun a b=>cmpT a.p b.p < 0
def ins (x:Lf):List Lf→List Lf
 | []=>[x]
 | y :: ys=>if cmpT x.p y.p=0 then x :: ys else if cmpT x.p y.p < 0 then x :: y :: ys else y :: ins x ys
theorem cmpT_vals (a b:List UInt8):cmpT a b=-1∨cmpT a b=0∨cmpT a b=1:=cmpP_vals _ _
theorem cmpT_lt {a b c:List UInt8}(h1:cmpT a b < 0) (h2:cmpT b c < 0):cmpT a c < 0:=by
 have:=ordT.strict (x:=a) (y:=b) (z:=c) (by omega) (by omega)
 omega
theorem cmpT_self (a:List UInt8):cmpT a a=0:=(ordT.zero a a).2 rfl
theorem srt_app {A B:List Lf}{y:Lf}(h:Srt (A++y :: B)):Srt A∧Srt B∧(∀ a∈A,cmpT a.p y.p < 0)∧(∀ b∈B,cmpT y.p b.p < 0)∧∀ a∈A,∀ b∈B,cmpT a.p b.p < 0:=by
 unfold Srt at h ⊢
 rw [List.pairwise_append,List.pairwise_cons] at h
 exact ⟨h.1,h.2.1.2,fun a ha=>h.2.2 a ha y (by simp),h.2.1.1,fun a ha b hb=>h.2.2 a ha b (by simp [hb])⟩
theorem ins_ahead (x y:Lf) (A B:List Lf) (h:cmpT x.p y.p=-1):ins x (A++y :: B)=ins x A++y :: B:=by
 induction A with
 | nil=>simp [ins,h]
 | cons z A ih =>
   simp only [List.cons_append,ins]
   split
   ·rfl
   ·split
    ·rfl
    ·rw [ih];rfl
theorem ins_behind (x y:Lf) (A B:List Lf) (hA:∀ a∈A,cmpT a.p y.p < 0) (h:cmpT x.p y.p=1):ins x (A++y :: B)=A++y :: ins x B:=by
 have hyx:cmpT y.p x.p=-1:=by rw [ordT.anti x.p y.p,h]
 induction A with
 | nil=>simp [ins,h]
 | cons z A ih =>
   have hz:cmpT z.p x.p < 0:=cmpT_lt (hA z (by simp)) (by omega)
   have hxz:=ordT.anti z.p x.p
   simp only [List.cons_append,ins]
   rw [if_neg (by omega),if_neg (by omega),ih (fun a ha=>hA a (by simp [ha]))]
theorem ins_there (x y:Lf) (A B:List Lf) (hA:∀ a∈A,cmpT a.p y.p < 0) (h:cmpT x.p y.p=0):ins x (A++y :: B)=A++x :: B:=by
 have e:=(ordT.zero _ _).1 h
 induction A with
 | nil=>simp [ins,h]
 | cons z A ih =>
   have hz:cmpT z.p x.p < 0:=by rw [e];exact hA z (by simp)
   have hxz:=ordT.anti z.p x.p
   simp only [List.cons_append,ins]
   rw [if_neg (by omega),if_neg (by omega),ih (fun a ha=>hA a (by simp [ha]))]
theorem mem_ins {x z:Lf}{L:List Lf}(h:z∈ins x L):z=x∨z∈L:=by
 induction L with
 | nil=>simpa [ins] using h
 | cons y L ih =>
   simp only [ins] at h
   split at h
   ·simp only [List.mem_cons] at h ⊢;rcases h with h | h;exact .inl h;exact .inr (.inr h)
   ·split at h
    ·simp only [List.mem_cons] at h ⊢;exact h
    ·simp only [List.mem_cons] at h ⊢
     rcases h with h | h
     ·exact .inr (.inl h)
     ·rcases ih h with h | h
      ·exact .inl h
      ·exact .inr (.inr h)
theorem ins_srt (x:Lf) (L:List Lf) (h:Srt L):Srt (ins x L):=by
 unfold Srt at h ⊢
 induction L with
 | nil=>simp [ins]
 | cons y L ih =>
   rw [List.pairwise_cons] at h
   simp only [ins]
   split
   ·rename_i e
    have e:=(ordT.zero _ _).1 e
    rw [List.pairwise_cons]
    exact ⟨fun a ha=>by rw [e];exact h.1 a ha,h.2⟩
   ·split
    ·rename_i e1 e2
     rw [List.pairwise_cons,List.pairwise_cons]
     refine ⟨fun a ha=>?_,h⟩
     simp only [List.mem_cons] at ha
     rcases ha with rfl | ha
     ·exact e2
     ·exact cmpT_lt e2 (h.1 a ha)
    ·rename_i e1 e2
     rw [List.pairwise_cons]
     refine ⟨fun a ha=>?_,ih h.2⟩
     rcases mem_ins ha with rfl | ha
     ·have:=ordT.anti y.p a.p;omega
     ·exact h.1 a ha
theorem ins_length (x:Lf) (L:List Lf):(ins x L).length≤L.length+1∧L.length≤(ins x L).length:=by
 induction L with
 | nil=>simp [ins]
 | cons y L ih =>
   simp only [ins]
   split
   ·simp
   ·split
    ·simp
    ·simp only [List.length_cons];omega
theorem put_list (x:Lf) (t:Tr) (h:Srt t.list):(t.put x).list=ins x t.list:=by
 induction t with
 | nil=>rfl
 | node l y r h1 h2 =>
   obtain ⟨a1,a2,a3,a4,a5⟩:=srt_app h
   simp only [Tr.put,Tr.list]
   rcases cmpT_vals x.p y.p with e | e | e
   ·rw [if_pos e,level_list,ins_ahead x y _ _ e];simp only [Tr.list];rw [h1 a1]
   ·rw [if_neg (by omega),if_neg (by omega),ins_there x y _ _ a3 e];rfl
   ·rw [if_neg (by omega),if_pos e,level_list,ins_behind x y _ _ a3 e];simp only [Tr.list];rw [h2 a2]
theorem put_srt (x:Lf) (t:Tr) (h:Srt t.list):Srt (t.put x).list:=by
 rw [put_list x t h];exact ins_srt x _ h
theorem bal_turnR {l r:Tr}{y:Lf}(hl:l.bal) (hr:r.bal) (e:l.height=r.height+2) (hle:¬ 0 < l.lean):(Tr.turnR (.node l y r)).bal∧((Tr.turnR (.node l y r)).height=r.height+2∨(Tr.turnR (.node l y r)).height=r.height+3):=by
 cases l with
 | nil=>simp [Tr.height] at e
 | node a z b =>
   simp only [Tr.bal,Tr.height,Tr.lean,Tr.turnR] at *
   refine ⟨⟨hl.1,⟨hl.2.1,hr,?_,?_⟩,?_,?_⟩,?_⟩ <;> omega
theorem bal_turnL {l r:Tr}{y:Lf}(hl:l.bal) (hr:r.bal) (e:r.height=l.height+2) (hle:¬ r.lean < 0):(Tr.turnL (.node l y r)).bal∧((Tr.turnL (.node l y r)).height=l.height+2∨(Tr.turnL (.node l y r)).height=l.height+3):=by
 cases r with
 | nil=>simp [Tr.height] at e
 | node a z b =>
   simp only [Tr.bal,Tr.height,Tr.lean,Tr.turnL] at *
   refine ⟨⟨⟨hl,hr.1,?_,?_⟩,hr.2.1,?_,?_⟩,?_⟩ <;> omega
theorem bal_turnRR {l r:Tr}{y:Lf}(hl:l.bal) (hr:r.bal) (e:l.height=r.height+2) (hle:0 < l.lean):(Tr.turnRR (.node l y r)).bal∧(Tr.turnRR (.node l y r)).height=r.height+2:=by
 cases l with
 | nil=>simp [Tr.height] at e
 | node a z b =>
   cases b with
   | nil=>simp only [Tr.lean,Tr.height] at hle;omega
   | node c u d =>
     simp only [Tr.bal,Tr.height,Tr.lean,Tr.turnRR,Tr.turnL,Tr.turnR] at *
     refine ⟨⟨⟨hl.1,hl.2.1.1,?_,?_⟩,⟨hl.2.1.2.1,hr,?_,?_⟩,?_,?_⟩,?_⟩ <;> omega
theorem bal_turnLL {l r:Tr}{y:Lf}(hl:l.bal) (hr:r.bal) (e:r.height=l.height+2) (hle:r.lean < 0):(Tr.turnLL (.node l y r)).bal∧(Tr.turnLL (.node l y r)).height=l.height+2:=by
 cases r with
 | nil=>simp [Tr.height] at e
 | node a z b =>
   cases a with
   | nil=>simp only [Tr.lean,Tr.height] at hle;omega
   | node c u d =>
     simp only [Tr.bal,Tr.height,Tr.lean,Tr.turnLL,Tr.turnL,Tr.turnR] at *
     refine ⟨⟨⟨hl,hr.1.1,?_,?_⟩,⟨hr.1.2.1,hr.2.1,?_,?_⟩,?_,?_⟩,?_⟩ <;> omega
theorem put_bal (x:Lf) (t:Tr) (h:t.bal):(t.put x).bal∧t.height≤(t.put x).height∧(t.put x).height≤t.height+1:=by
 induction t with
 | nil=>simp [Tr.put,Tr.bal,Tr.height]
 | node l y r h1 h2 =>
   obtain ⟨hl,hr,b1,b2⟩:=h
   simp only [Tr.put]
   rcases cmpT_vals x.p y.p with e | e | e
   ·rw [if_pos e]
    obtain ⟨g1,g2,g3⟩:=h1 hl
    have hln:(Tr.node (l.put x) y r).lean=(r.height:Int) - (l.put x).height:=rfl
    unfold Tr.level
    by_cases c:(l.put x).height=r.height+2
    ·rw [if_pos (by omega)]
     by_cases c2:0 < (Tr.node (l.put x) y r).left.lean
     ·rw [if_pos c2]
      have:=bal_turnRR (y:=y) g1 hr c c2
      refine ⟨this.1,?_⟩
      rw [this.2];simp only [Tr.height];omega
     ·rw [if_neg c2]
      have:=bal_turnR (y:=y) g1 hr c c2
      refine ⟨this.1,?_⟩
      simp only [Tr.height];omega
    ·rw [if_neg (by omega),if_neg (by omega)]
     refine ⟨⟨g1,hr,by omega,by omega⟩,?_⟩
     simp only [Tr.height];omega
   ·rw [if_neg (by omega),if_neg (by omega)]
    exact ⟨⟨hl,hr,b1,b2⟩,Nat.le_refl _,Nat.le_succ _⟩
   ·rw [if_neg (by omega),if_pos e]
    obtain ⟨g1,g2,g3⟩:=h2 hr
    have hln:(Tr.node l y (r.put x)).lean=((r.put x).height:Int) - l.height:=rfl
    unfold Tr.level
    by_cases c:(r.put x).height=l.height+2
    ·rw [if_neg (by omega),if_pos (by omega)]
     by_cases c2:(Tr.node l y (r.put x)).right.lean < 0
     ·rw [if_pos c2]
      have:=bal_turnLL (y:=y) hl g1 c c2
      refine ⟨this.1,?_⟩
      rw [this.2];simp only [Tr.height];omega
     ·rw [if_neg c2]
      have:=bal_turnL (y:=y) hl g1 c c2
      refine ⟨this.1,?_⟩
      simp only [Tr.height];omega
    ·rw [if_neg (by omega),if_neg (by omega)]
     refine ⟨⟨hl,g1,by omega,by omega⟩,?_⟩
     simp only [Tr.height];omega
theorem get_mem {t:Tr}(h:Srt t.list) (f:List UInt8):t.get f=t.list.find? fun x=>decide (f=x.p):=by
 induction t with
 | nil=>rfl
 | node l x r h1 h2 =>
   obtain ⟨a1,a2,a3,a4,a5⟩:=srt_app h
   simp only [Tr.get,Tr.list,List.find?_append,List.find?_cons]
   rcases cmpT_vals f x.p with e | e | e
   ·rw [if_pos e,h1 a1]
    have hne:f≠x.p:=fun q=>by rw [(ordT.zero _ _).2 q] at e;omega
    rw [decide_eq_false hne]
    have:r.list.find? (fun x=>decide (f=x.p))=none:=by
     rw [List.find?_eq_none]
     intro b hb q
     simp at q
     have h3:=cmpT_lt (show cmpT f x.p < 0 by omega) (a4 b hb)
     rw [q,cmpT_self] at h3;omega
    rw [this];simp
   ·have q:=(ordT.zero _ _).1 e
    rw [if_neg (by omega),if_neg (by omega),decide_eq_true q]
    have:l.list.find? (fun x=>decide (f=x.p))=none:=by
     rw [List.find?_eq_none]
     intro b hb q2
     simp at q2
     have h3:=a3 b hb
     rw [← q2,q,cmpT_self] at h3;omega
    rw [this];simp
   ·rw [if_neg (by omega),if_pos e,h2 a2]
    have hne:f≠x.p:=fun q=>by rw [(ordT.zero _ _).2 q] at e;omega
    rw [decide_eq_false hne]
    have:l.list.find? (fun x=>decide (f=x.p))=none:=by
     rw [List.find?_eq_none]
     intro b hb q2
     simp at q2
     have h3:=a3 b hb
     rw [← q2] at h3;omega
    rw [this];simp
end Go.Proofs.YtddhmfildfdbdaaGreat
namespace Go.Proofs.YtddhmfildfdbdaaGreat
structure Gr where
 cs:List Com
 ls:List Lf
 rs:List (List UInt8 × Int)
def voidG:Gr:=⟨[],[],[]⟩
def findL (p:List UInt8) (L:List Lf):Option Lf:=L.find? fun y=>decide (p=y.p)
def confl (ls:List Lf) (b:Int):List Ch→Option (List UInt8 × Int)
 | []=>none
 | x :: l=>match findL x.p ls with
   | some y=>if b < y.r then some (x.p,y.r) else confl ls b l
   | none=>confl ls b l
def putC (r:Int) (ls:List Lf) (l:List Ch):List Lf:=l.foldl (fun a x=>ins ⟨x.p,x.d,r,x.g⟩ a) ls
def mvR (n:List UInt8) (r:Int):List (List UInt8 × Int)→List (List UInt8 × Int)
 | []=>[(n,r)]
 | x :: l=>if x.1 < n then x :: mvR n r l else if x.1=n then (n,r) :: l else (n,r) :: x :: l
structure Vd where
 c:Int
 r:Int
 p:List UInt8
 d:Int
deriving DecidableEq
noncomputable def badB (b:Int) (n:List UInt8) (L:List Ch):Bool:=!(errC L==0) || (!n.isEmpty && !wordB false n) || decide (b < 0)
noncomputable def endV (G:Gr) (b:Int) (n:List UInt8) (L:List Ch):Option Vd :=
 if badB b n L=true then some ⟨5,0,[],0⟩
 else if (G.cs.length:Int) < b then some ⟨4,G.cs.length,[],0⟩
 else (confl G.ls b (sortC L)).map fun x=>⟨3,x.2,x.1,0⟩
noncomputable def landV (G:Gr) (b:Int) (n:List UInt8) (L:List Ch):Vd:=(endV G b n L).getD ⟨2,(G.cs.length:Int)+1,[],0⟩
def newC (G:Gr) (b:Int) (n:List UInt8) (L:List Ch):Com:=⟨(G.cs.length:Int)+1,b,n,sortC L⟩
def rsAdd (n:List UInt8) (r:Int) (l:List (List UInt8 × Int)):List (List UInt8 × Int) :=
 match n with
 | []=>l
 | c :: m=>mvR (c :: m) r l
theorem rsAdd_some {n:List UInt8}(h:n≠[]) (r:Int) (l:List (List UInt8 × Int)):rsAdd n r l=mvR n r l:=by
 cases n with
 | nil=>exact absurd rfl h
 | cons c m=>rfl
def addG (G:Gr) (c:Com):Gr:=⟨G.cs++[c],putC c.r G.ls c.c,rsAdd c.n c.r G.rs⟩
noncomputable def landG (G:Gr) (b:Int) (n:List UInt8) (L:List Ch):Gr :=
 match endV G b n L with
 | some _=>G
 | none=>addG G (newC G b n L)
theorem landV_some {G:Gr}{b:Int}{n:List UInt8}{L:List Ch}{v:Vd}(h:endV G b n L=some v):landV G b n L=v∧landG G b n L=G:=by
 simp [landV,landG,h]
theorem landV_none {G:Gr}{b:Int}{n:List UInt8}{L:List Ch}(h:endV G b n L=none):landV G b n L=⟨2,(G.cs.length:Int)+1,[],0⟩∧landG G b n L=addG G (newC G b n L):=by
 simp [landV,landG,h]
theorem endV_conf {G:Gr}{b:Int}{n:List UInt8}{L:List Ch}(h:badB b n L=false) (h2:¬ (G.cs.length:Int) < b):endV G b n L=(confl G.ls b (sortC L)).map fun x=>⟨3,x.2,x.1,0⟩:=by simp [endV,h,h2]
theorem endV_none {G:Gr}{b:Int}{n:List UInt8}{L:List Ch}(h:endV G b n L=none):badB b n L=false∧b≤(G.cs.length:Int)∧confl G.ls b (sortC L)=none:=by
 unfold endV at h
 by_cases h1:badB b n L=true
 ·simp [h1] at h
 by_cases h2:(G.cs.length:Int) < b
 ·simp [h1,h2] at h
 simp [h1,h2] at h
 exact ⟨by simpa using h1,by omega,h⟩
theorem badB_false {b:Int}{n:List UInt8}{L:List Ch}(h:badB b n L=false):CheckOK L∧(n=[]∨wordB false n=true)∧0≤b:=by
 simp only [badB,Bool.or_eq_false_iff,Bool.not_eq_false',beq_iff_eq,Bool.and_eq_false_iff,decide_eq_false_iff_not,List.isEmpty_iff] at h
 obtain ⟨⟨h1,h2⟩,h3⟩:=h
 refine ⟨errC_zero.1 h1,h2,by omega⟩
theorem landV_code (G:Gr) (b:Int) (n:List UInt8) (L:List Ch):(landV G b n L).c=2↔endV G b n L=none:=by
 constructor
 ·intro h
  cases he:endV G b n L with
  | none=>rfl
  | some v =>
    rw [(landV_some he).1] at h
    unfold endV at he
    split at he
    ·cases he;simp at h
    split at he
    ·cases he;simp at h
    ·cases hc:confl G.ls b (sortC L) with
     | none=>rw [hc] at he;simp at he
     | some x=>rw [hc] at he;simp at he;subst he;simp at h
 ·intro h;rw [(landV_none h).1]
def SrR (l:List (List UInt8 × Int)):Prop:=l.Pairwise fun a b=>a.1 < b.1
theorem mem_mvR {n:List UInt8}{r:Int}{l:List (List UInt8 × Int)}{x:List UInt8 × Int}(h:x∈mvR n r l):x=(n,r)∨x∈l:=by
 induction l with
 | nil=>simp [mvR] at h;exact .inl h
 | cons y l ih =>
   simp only [mvR] at h
   split at h
   ·rcases List.mem_cons.1 h with h | h
    ·exact .inr (by simp [h])
    ·rcases ih h with h | h
     ·exact .inl h
     ·exact .inr (by simp [h])
   split at h
   ·rcases List.mem_cons.1 h with h | h
    ·exact .inl h
    ·exact .inr (by simp [h])
   ·rcases List.mem_cons.1 h with h | h
    ·exact .inl h
    ·exact .inr h
theorem mvR_length (n:List UInt8) (r:Int) (l:List (List UInt8 × Int)):(mvR n r l).length≤l.length+1:=by
 induction l with
 | nil=>simp [mvR]
 | cons y l ih =>
   simp only [mvR]
   split
   ·simp;omega
   split
   ·simp
   ·simp
theorem lt_or {a b:List UInt8}(h1:¬ a < b) (h2:¬ a=b):b < a:=by
 rcases Classical.em (b < a) with h | h
 ·exact h
 ·exact absurd (List.le_antisymm (List.not_lt.1 h) (List.not_lt.1 h1)) h2
theorem mvR_srt {n:List UInt8}{r:Int}{l:List (List UInt8 × Int)}(h:SrR l):SrR (mvR n r l):=by
 induction l with
 | nil=>simp [mvR,SrR]
 | cons y l ih =>
   obtain ⟨h1,h2⟩:=List.pairwise_cons.1 h
   simp only [mvR]
   split
   ·rename_i hlt
    refine List.pairwise_cons.2 ⟨fun x hx=>?_,ih h2⟩
    rcases mem_mvR hx with rfl | hx
    ·exact hlt
    ·exact h1 x hx
   split
   ·rename_i hne
    refine List.pairwise_cons.2 ⟨fun x hx=>?_,h2⟩
    have:=h1 x hx
    rw [hne] at this
    exact this
   ·rename_i h3 h4
    have h5:=lt_or h3 h4
    refine List.pairwise_cons.2 ⟨fun x hx=>?_,h⟩
    rcases List.mem_cons.1 hx with rfl | hx
    ·exact h5
    ·exact List.lt_trans h5 (h1 x hx)
theorem findL_mem {p:List UInt8}{L:List Lf}{y:Lf}(h:findL p L=some y):y∈L∧y.p=p:=by
 unfold findL at h
 have h1:=List.mem_of_find?_eq_some h
 have h2:=List.find?_some h
 simp at h2
 exact ⟨h1,h2.symm⟩
theorem putC_cons (r:Int) (ls:List Lf) (x:Ch) (l:List Ch):putC r ls (x :: l)=putC r (ins ⟨x.p,x.d,r,x.g⟩ ls) l:=rfl
theorem putC_app (r:Int) (ls:List Lf) (l m:List Ch):putC r ls (l++m)=putC r (putC r ls l) m:=by simp [putC]
theorem putC_all (P:Lf→Prop) {r:Int}{l:List Ch}:∀ {ls:List Lf},(∀ x∈ls,P x)→(∀ x∈l,P ⟨x.p,x.d,r,x.g⟩)→∀ x∈putC r ls l,P x:=by
 induction l with
 | nil=>intro ls h _;exact h
 | cons y l ih =>
   intro ls h1 h2
   rw [putC_cons]
   refine ih (fun x hx=>?_) (fun x hx=>h2 x (by simp [hx]))
   rcases mem_ins hx with rfl | hx
   ·exact h2 y (by simp)
   ·exact h1 x hx
theorem putC_srt {r:Int}{l:List Ch}:∀ {ls:List Lf},Srt ls→Srt (putC r ls l):=by
 induction l with
 | nil=>intro ls h;exact h
 | cons y l ih=>intro ls h;rw [putC_cons];exact ih (ins_srt _ _ h)
theorem putC_length {r:Int}{l:List Ch}:∀ {ls:List Lf},(putC r ls l).length≤ls.length+l.length:=by
 induction l with
 | nil=>intro ls;simp [putC]
 | cons y l ih=>intro ls;rw [putC_cons];have h1:=@ih (ins ⟨y.p,y.d,r,y.g⟩ ls);have h2:=(ins_length ⟨y.p,y.d,r,y.g⟩ ls).1;simp;omega
structure Wf (G:Gr):Prop where
 srt:Srt G.ls
 srs:SrR G.rs
 path:∀ x∈G.ls,x.p.length≤64
 many:G.ls.length≤16*G.cs.length
 refs:G.rs.length≤G.cs.length
 name:∀ x∈G.rs,0 < x.1.length∧x.1.length≤24
 rev:∀ x∈G.ls,0 < x.r∧x.r≤(G.cs.length:Int)
 rrev:∀ x∈G.rs,0 < x.2∧x.2≤(G.cs.length:Int)
 com:∀ c∈G.cs,CheckOK c.c∧(∀ x∈c.c,x.p.length≤64)∧c.n.length≤24∧sortC c.c=c.c
 revs:∀ i (h:i < G.cs.length),G.cs[i].r=(i:Int)+1∧0≤G.cs[i].b∧G.cs[i].b≤(i:Int)
theorem wf_void:Wf voidG:=⟨List.Pairwise.nil,List.Pairwise.nil,by simp [voidG],by simp [voidG],by simp [voidG],by simp [voidG],by simp [voidG],by simp [voidG],by simp [voidG],by simp [voidG]⟩
theorem check_perm {L M:List Ch}(h:L.Perm M):CheckOK L↔CheckOK M:=by
 rw [checkOK_iff,checkOK_iff,h.length_eq]
 exact ⟨fun ⟨a,b,c,d⟩=>⟨a,b,fun x hx=>c x (h.mem_iff.2 hx),(h.map Ch.p).nodup_iff.1 d⟩,fun ⟨a,b,c,d⟩=>⟨a,b,fun x hx=>c x (h.mem_iff.1 hx),(h.map Ch.p).nodup_iff.2 d⟩⟩
theorem sortC_check {L:List Ch}:CheckOK (sortC L)↔CheckOK L:=(check_perm (sortC_alike L).perm).symm
theorem sortC_again (L:List Ch):sortC (sortC L)=sortC L:=(sortC_alike (sortC L)).symm.one (sortC_ris _) (sortC_ris _)
theorem check_short {L:List Ch}(h:CheckOK L):∀ x∈L,x.p.length≤64:=fun x hx=>by
 obtain ⟨_,_,h3,_⟩:=(checkOK_iff L).1 h
 have:=h3 x hx
 simp only [mayB,Bool.and_eq_true,decide_eq_true_eq] at this
 exact normB_len this.1
theorem wordB_len {n:List UInt8}(h:wordB false n=true):0 < n.length∧n.length≤24:=by
 simp only [wordB,Bool.and_eq_true,decide_eq_true_eq] at h
 exact ⟨h.1.1,h.1.2⟩
theorem wf_add {G:Gr}(h:Wf G) {b:Int}{n:List UInt8}{L:List Ch}(he:endV G b n L=none):Wf (addG G (newC G b n L)):=by
 obtain ⟨h1,h2,h3⟩:=endV_none he
 obtain ⟨h4,h5,h6⟩:=badB_false h1
 have h7:=sortC_check.2 h4
 have h8:=check_short h7
 have h9:(sortC L).length≤16:=h7.2.1
 have h10:n.length≤24:=by
  rcases h5 with rfl | h5
  ·simp
  ·exact (wordB_len h5).2
 refine ⟨putC_srt h.srt,?_,?_,?_,?_,?_,?_,?_,?_,?_⟩
 ·simp only [addG,newC]
  cases n with
  | nil=>exact h.srs
  | cons c m=>exact mvR_srt h.srs
 ·exact putC_all (fun x=>x.p.length≤64) h.path h8
 ·have:=@putC_length ((G.cs.length:Int)+1) (sortC L) G.ls
  have:=h.many
  simp only [addG,newC,List.length_append,List.length_singleton]
  omega
 ·have:=h.refs
  have:=mvR_length n ((G.cs.length:Int)+1) G.rs
  simp only [addG,newC,List.length_append,List.length_singleton]
  cases n with
  | nil=>simp only [rsAdd];omega
  | cons c m=>simp only [rsAdd];omega
 ·intro x hx
  simp only [addG,newC] at hx
  cases n with
  | nil=>exact h.name x hx
  | cons c m =>
    rcases mem_mvR hx with rfl | hx
    ·rcases h5 with h5 | h5
     ·cases h5
     ·exact wordB_len h5
    ·exact h.name x hx
 ·refine putC_all (fun x=>0 < x.r∧x.r≤(((G.cs++[newC G b n L]).length:Nat):Int)) (fun x hx=>?_) (fun x _=>?_)
  ·have:=h.rev x hx;simp;omega
  ·simp [newC]
 ·intro x hx
  simp only [addG,newC] at hx ⊢
  simp only [List.length_append,List.length_singleton]
  cases n with
  | nil=>have:=h.rrev x hx;omega
  | cons c m =>
    rcases mem_mvR hx with rfl | hx
    ·simp only;omega
    ·have:=h.rrev x hx;omega
 ·intro c hc
  rcases List.mem_append.1 hc with hc | hc
  ·exact h.com c hc
  ·simp at hc;subst hc
   exact ⟨h7,h8,h10,sortC_again L⟩
 ·intro i hi
  simp only [addG,List.length_append,List.length_singleton] at hi
  simp only [addG]
  by_cases hlt:i < G.cs.length
  ·rw [List.getElem_append_left hlt];exact h.revs i hlt
  ·have:i=G.cs.length:=by omega
   subst this
   simp [newC];omega
theorem wf_land {G:Gr}(h:Wf G) (b:Int) (n:List UInt8) (L:List Ch):Wf (landG G b n L):=by
 cases he:endV G b n L with
 | some v=>rw [(landV_some he).2];exact h
 | none=>rw [(landV_none he).2];exact wf_add h he
noncomputable def stepL (G:Gr) (c:Com):Option Gr :=
 if (landV G c.b c.n c.c).c=2∧(landV G c.b c.n c.c).r=c.r∧sortC c.c=c.c then some (landG G c.b c.n c.c) else none
noncomputable def loadL:Gr→List Com→Option Gr
 | G,[]=>some G
 | G,c :: l=>(stepL G c).bind fun G'=>loadL G' l
theorem loadL_app (G:Gr) (l m:List Com):loadL G (l++m)=(loadL G l).bind fun G'=>loadL G' m:=by
 induction l generalizing G with
 | nil=>rfl
 | cons c l ih =>
   simp only [List.cons_append,loadL]
   cases stepL G c with
   | none=>rfl
   | some G'=>simpa using ih G'
theorem wf_step {G G':Gr}{c:Com}(h:Wf G) (hs:stepL G c=some G'):Wf G'∧G'.cs=G.cs++[c]:=by
 unfold stepL at hs
 split at hs
 ·rename_i hc
  obtain ⟨h1,h2,h3⟩:=hc
  cases hs
  have he:=(landV_code _ _ _ _).1 h1
  refine ⟨wf_land h _ _ _,?_⟩
  rw [(landV_none he).1] at h2
  rw [(landV_none he).2]
  simp only [addG,newC,h3]
  simp only at h2
  rw [h2]
 ·cases hs
inductive Reach:Gr→Prop
 | void:Reach voidG
 | land {G:Gr}(b:Int) (n:List UInt8) (L:List Ch):Reach G→Reach (landG G b n L)
theorem Reach.wf {G:Gr}(h:Reach G):Wf G:=by
 induction h with
 | void=>exact wf_void
 | land b n L _ ih=>exact wf_land ih b n L
theorem wf_loads:∀ {l:List Com}{G G':Gr},Wf G→loadL G l=some G'→Wf G'∧G'.cs=G.cs++l:=by
 intro l
 induction l with
 | nil=>intro G G' h hl;cases hl;exact ⟨h,by simp⟩
 | cons c l ih =>
   intro G G' h hl
   simp only [loadL] at hl
   cases hs:stepL G c with
   | none=>rw [hs] at hl;cases hl
   | some G1 =>
     rw [hs] at hl
     obtain ⟨h1,h2⟩:=wf_step h hs
     obtain ⟨h3,h4⟩:=ih h1 hl
     exact ⟨h3,by rw [h4,h2];simp⟩
structure Se where
 i:Int
 q:Int
 n:List UInt8
 v:Vt
deriving DecidableEq
def se0:Se:=⟨0,0,[],vtC 0⟩
def byI (id:Int) (L:List Se):Option Nat:=L.findIdx? fun x=>decide (x.i=id)
def byN (n:List UInt8) (L:List Se):Option Nat:=L.findIdx? fun x=>decide (x.n=n)
theorem byI_lt {id:Int}{L:List Se}{i:Nat}(h:byI id L=some i):∃ hi:i < L.length,L[i].i=id:=by
 unfold byI at h
 rw [List.findIdx?_eq_some_iff_getElem] at h
 obtain ⟨hi,h1,_⟩:=h
 exact ⟨hi,by simpa using h1⟩
theorem byN_lt {n:List UInt8}{L:List Se}{i:Nat}(h:byN n L=some i):∃ hi:i < L.length,L[i].n=n:=by
 unfold byN at h
 rw [List.findIdx?_eq_some_iff_getElem] at h
 obtain ⟨hi,h1,_⟩:=h
 exact ⟨hi,by simpa using h1⟩
def okS (x:Se):Prop:=x.n.length≤140737488351232∧okV x.v
def Uniq (L:List Se):Prop:=(L.map fun x=>x.i).Nodup∧(L.map fun x=>x.n).Nodup
theorem uniq_nil:Uniq []:=⟨by simp,by simp⟩
theorem byI_none {id:Int}{L:List Se}(h:byI id L=none):∀ x∈L,x.i≠id:=by
 unfold byI at h
 rw [List.findIdx?_eq_none_iff] at h
 intro x hx
 simpa using h x hx
theorem byN_none {n:List UInt8}{L:List Se}(h:byN n L=none):∀ x∈L,x.n≠n:=by
 unfold byN at h
 rw [List.findIdx?_eq_none_iff] at h
 intro x hx
 simpa using h x hx
theorem uniq_ne {L:List Se}(h:Uniq L) {i j:Nat}(hi:i < L.length) (hj:j < L.length) (hne:j < i):(L[i].i==L[j].i)=false∧((L[i].n)=(L[j].n))=False:=by
 have h1:=(List.pairwise_iff_getElem.1 h.1) j i (by simpa using hj) (by simpa using hi) hne
 have h2:=(List.pairwise_iff_getElem.1 h.2) j i (by simpa using hj) (by simpa using hi) hne
 simp at h1 h2
 exact ⟨by simpa using fun e=>h1 e.symm,eq_false fun e=>h2 e.symm⟩
def LdOk (L:List Se):Prop:=Uniq L∧∀ x∈L,0≤x.q
theorem ldOk_nil:LdOk []:=⟨uniq_nil,fun x hx=>by cases hx⟩
theorem ldOk_push {M:List Se}{x:Se}(h:LdOk M) (h0:0≤x.q) (h1:∀ y∈M,y.i≠x.i) (h2:∀ y∈M,y.n≠x.n):LdOk (M++[x]):=by
 refine ⟨⟨?_,?_⟩,fun y hy=>?_⟩
 ·rw [List.map_append,List.nodup_append]
  refine ⟨h.1.1,by simp,fun a ha b hb=>?_⟩
  obtain ⟨y,hy,rfl⟩:=List.mem_map.1 ha
  rw [show b=x.i by simpa using hb]
  exact h1 y hy
 ·rw [List.map_append,List.nodup_append]
  refine ⟨h.1.2,by simp,fun a ha b hb=>?_⟩
  obtain ⟨y,hy,rfl⟩:=List.mem_map.1 ha
  rw [show b=x.n by simpa using hb]
  exact h2 y hy
 ·rcases List.mem_append.1 hy with hy | hy
  ·exact h.2 y hy
  ·rw [show y=x by simpa using hy];exact h0
theorem ldOk_next {L:List Se}{j:Nat}{x:Se}(hx:L[j]?=some x) (h:LdOk (L.take j)) (h0:0≤x.q) (h1:∀ y∈L.take j,y.i≠x.i) (h2:∀ y∈L.take j,y.n≠x.n):LdOk (L.take (j+1)):=by
 obtain ⟨hj,rfl⟩:=List.getElem?_eq_some_iff.1 hx
 rw [List.take_succ_eq_append_getElem hj]
 exact ldOk_push h h0 h1 h2
theorem take_next {L:List Se}{j:Nat}{x:Se}(hx:L[j]?=some x):L.take (j+1)=L.take j++[x]:=by
 obtain ⟨hj,rfl⟩:=List.getElem?_eq_some_iff.1 hx
 exact List.take_succ_eq_append_getElem hj
theorem ldOk_q {L:List Se}{j:Nat}{x:Se}(hx:L[j]?=some x) (h:x.q < 0):¬ LdOk L:=fun hl=>by
 have:=hl.2 x (List.mem_of_getElem? hx)
 omega
theorem ldOk_i {L:List Se}{j k:Nat}{x y:Se}(hx:L[j]?=some x) (hy:L[k]?=some y) (hk:k < j) (h:y.i=x.i):¬ LdOk L:=fun hl=>by
 obtain ⟨hj,rfl⟩:=List.getElem?_eq_some_iff.1 hx
 obtain ⟨hk2,rfl⟩:=List.getElem?_eq_some_iff.1 hy
 have h2:=(uniq_ne hl.1 hj hk2 hk).1
 simp [h] at h2
theorem ldOk_n {L:List Se}{j k:Nat}{x y:Se}(hx:L[j]?=some x) (hy:L[k]?=some y) (hk:k < j) (h:y.n=x.n):¬ LdOk L:=fun hl=>by
 obtain ⟨hj,rfl⟩:=List.getElem?_eq_some_iff.1 hx
 obtain ⟨hk2,rfl⟩:=List.getElem?_eq_some_iff.1 hy
 have h2:=(uniq_ne hl.1 hj hk2 hk).2
 rw [h] at h2;simp at h2
theorem take_at {L:List Se}{j k:Nat}(hj:j≤L.length) (hk:k < (L.take j).length):L[k]?=some (L.take j)[k]∧k < j:=by
 have h:k < j:=by simp at hk;omega
 refine ⟨?_,h⟩
 rw [List.getElem_take,List.getElem?_eq_getElem]
theorem bad_byI {L:List Se}{j k:Nat}{x:Se}(hx:L[j]?=some x) (h:byI x.i (L.take j)=some k):¬ LdOk L:=by
 obtain ⟨hk,he⟩:=byI_lt h
 obtain ⟨hj,_⟩:=List.getElem?_eq_some_iff.1 hx
 obtain ⟨h1,h2⟩:=take_at (Nat.le_of_lt hj) hk
 exact ldOk_i hx h1 h2 he
theorem bad_byN {L:List Se}{j k:Nat}{x:Se}(hx:L[j]?=some x) (h:byN x.n (L.take j)=some k):¬ LdOk L:=by
 obtain ⟨hk,he⟩:=byN_lt h
 obtain ⟨hj,_⟩:=List.getElem?_eq_some_iff.1 hx
 obtain ⟨h1,h2⟩:=take_at (Nat.le_of_lt hj) hk
 exact ldOk_n hx h1 h2 he
structure Ep where
 f:Int
 m:List Int
deriving DecidableEq
def May (m:List Int):Prop:=m≠[]∧m.Pairwise (· < ·)∧∀ x∈m,0≤x∧x < 15
instance (m:List Int):Decidable (May m):=by unfold May;infer_instance
def setB (m:List Int) (k:Nat):Bool:=decide ((k:Int)∈m)
def updB (S:Nat→Bool) (q:Nat) (v:Bool) (k:Nat):Bool:=if k=q then v else S k
def told (S:Nat→Bool):List Int:=((List.range 15).filter S).map fun k:Nat=>(k:Int)
theorem rise_one:∀ {l m:List Int},l.Pairwise (· < ·)→m.Pairwise (· < ·)→(∀ x,x∈l↔x∈m)→l=m
 | [],[],_,_,_=>rfl
 | [],y :: m,_,_,h=>by have:=(h y).2 (by simp);simp at this
 | x :: l,[],_,_,h=>by have:=(h x).1 (by simp);simp at this
 | x :: l,y :: m,hl,hm,h=>by
   rw [List.pairwise_cons] at hl hm
   have hxy:x=y:=by
    have h1:=(h x).1 (by simp)
    have h2:=(h y).2 (by simp)
    rcases List.mem_cons.1 h1 with h1 | h1
    ·exact h1
    ·rcases List.mem_cons.1 h2 with h2 | h2
     ·exact h2.symm
     ·have a:=hm.1 x h1
      have b:=hl.1 y h2
      omega
   subst hxy
   rw [rise_one hl.2 hm.2 fun z=>⟨fun hz=>by
    rcases List.mem_cons.1 ((h z).1 (List.mem_cons_of_mem _ hz)) with e | e
    ·have:=hl.1 z hz;omega
    ·exact e,fun hz=>by
    rcases List.mem_cons.1 ((h z).2 (List.mem_cons_of_mem _ hz)) with e | e
    ·have:=hm.1 z hz;omega
    ·exact e⟩]
theorem told_rise (S:Nat→Bool):(told S).Pairwise (· < ·):=by
 unfold told
 rw [List.pairwise_map]
 exact (List.pairwise_lt_range.filter _).imp (fun h=>by omega)
theorem mem_told {S:Nat→Bool}{x:Int}:x∈told S↔∃ k:Nat,x=k∧k < 15∧S k=true:=by
 unfold told
 simp only [List.mem_map,List.mem_filter,List.mem_range]
 exact ⟨fun ⟨k,⟨h1,h2⟩,h3⟩=>⟨k,h3.symm,h1,h2⟩,fun ⟨k,h1,h2,h3⟩=>⟨k,⟨h2,h3⟩,h1.symm⟩⟩
theorem told_may {m:List Int}(h:May m):told (setB m)=m :=
 rise_one (told_rise _) h.2.1 fun x=>by
  rw [mem_told]
  refine ⟨fun ⟨k,hk,_,h1⟩=>by rw [hk];simpa [setB] using h1,fun hx=>?_⟩
  have:=h.2.2 x hx
  exact ⟨x.toNat,by omega,by omega,by simp only [setB,decide_eq_true_eq];rw [show ((x.toNat:Nat):Int)=x by omega];exact hx⟩
def cntL (L:List Ep) (z:Int):Nat:=(L.filter fun x=>decide (x.f≤z)).length
def plc (L:List Ep) (z:Int):Nat:=cntL L z - 1
def RiseL (L:List Ep):Prop:=L.Pairwise fun a b=>a.f < b.f
def OkL (L:List Ep):Prop:=L≠[]∧RiseL L∧∀ x∈L,May x.m∧0≤x.f∧x.f≤1099511627776
theorem cnt_le (L:List Ep) (z:Int):cntL L z≤L.length:=List.length_filter_le _ _
theorem cnt_iff:∀ {L:List Ep}(_:RiseL L) (z:Int) (i:Nat) (h:i < L.length),L[i].f≤z↔i < cntL L z
 | [],_,_,i,h=>by simp at h
 | x :: L,hr,z,i,h=>by
   obtain ⟨h1,h2⟩:=List.pairwise_cons.1 hr
   unfold cntL
   by_cases hx:x.f≤z
   ·rw [List.filter_cons_of_pos (by simpa using hx),List.length_cons]
    cases i with
    | zero=>simpa using hx
    | succ i =>
      have:=cnt_iff h2 z i (by simpa using h)
      simp only [List.getElem_cons_succ]
      rw [this]
      unfold cntL
      omega
   ·have hn:∀ y∈x :: L,¬ (decide (y.f≤z)=true):=by
     intro y hy
     rcases List.mem_cons.1 hy with rfl | hy
     ·simpa using hx
     ·have:=h1 y hy
      simp;omega
    rw [List.filter_eq_nil_iff.2 hn]
    simp only [List.length_nil,Nat.not_lt_zero,iff_false]
    exact fun hle=>hn _ (List.getElem_mem h) (by simpa using hle)
theorem plc_lt {L:List Ep}(h:L≠[]) (z:Int):plc L z < L.length:=by
 have:=cnt_le L z
 have:=List.length_pos_iff.2 h
 unfold plc
 omega
def cutL (L:List Ep) (z:Int):List Ep:=L.drop (plc L z)
theorem okL_new {m:List Int}(h:May m):OkL [⟨0,m⟩]:=⟨by simp,List.pairwise_singleton _ _,fun x hx=>by simp at hx;subst hx;exact ⟨h,by simp,by simp⟩⟩
theorem okL_cut {L:List Ep}(h:OkL L) (z:Int):OkL (cutL L z) :=
 ⟨fun e=>by
  have:=plc_lt h.1 z
  have h2:(cutL L z).length=0:=by rw [e];rfl
  unfold cutL at h2
  rw [List.length_drop] at h2
  omega,h.2.1.sublist (List.drop_sublist _ _),fun x hx=>h.2.2 x (List.mem_of_mem_drop hx)⟩
structure Ma where
 a:Int
 g:Gr
 s:List Se
 e:List Ep
def newM (l:List Int):Ma:=⟨0,voidG,[],[⟨0,l⟩]⟩
end Go.Proofs.YtddhmfildfdbdaaGreat
