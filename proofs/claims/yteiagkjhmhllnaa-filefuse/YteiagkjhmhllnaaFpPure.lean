/-
  Files whose names rise: by their names they come in and go out; the datum of a map that leads from names to blocks.
-/
import Derived.Test.YteiagkjhmhllnaaFdBd
import Derived.Maps.OwnSet
import Derived.Maps.OwnOps
import Derived.Maps.Ext
import Derived.Sort.KeysCollected
import Derived.StringKeys
namespace Go.Proofs.Yteiagkjhmhllnaa
open Go.RowKit
theorem ltN_eq:∀ (a b:List UInt8),ltN a b=decide (a < b)
 | [],[]=>by simp [ltN,Op.bytesLess]
 | [],_ :: _=>by simp [ltN,Op.bytesLess]
 | _ :: _,[]=>by simp [ltN,Op.bytesLess]
 | x :: a,y :: b=>by
   have ih:=ltN_eq a b
   unfold ltN at ih ⊢
   simp only [Op.bytesLess,ih,List.cons_lt_cons_iff]
   by_cases h1:x < y
   ·simp [h1]
   ·by_cases h2:x=y
    ·subst h2;simp [h1]
    ·simp [h1,h2]
theorem lt_orF {a b:List UInt8}(h1:¬ a < b) (h2:¬ a=b):b < a:=by
 rcases Classical.em (b < a) with h | h
 ·exact h
 ·exact absurd (List.le_antisymm (List.not_lt.1 h) (List.not_lt.1 h1)) h2
section
variable {α : Type} (nm : α → List UInt8)
def RisG (X:List α):Prop:=X.Pairwise fun a b=>nm a < nm b
def delG (n:List UInt8) (X:List α):List α:=X.filter fun x=>decide (nm x≠n)
def insG (x:α):List α→List α
 | []=>[x]
 | y :: r=>if ltN (nm y) (nm x)=true then y :: insG x r else x :: y :: r
theorem delG_no {n:List UInt8}{X:List α}(h:∀ x∈X,nm x≠n):delG nm n X=X:=List.filter_eq_self.2 fun x hx=>by simp [h x hx]
theorem mem_delG {n:List UInt8}{X:List α}{x:α}:x∈delG nm n X↔x∈X∧nm x≠n:=by simp [delG]
theorem delG_sub (n:List UInt8) (X:List α):(delG nm n X).Sublist X:=List.filter_sublist
theorem insG_perm (x:α) (X:List α):(insG nm x X).Perm (x :: X):=by
 induction X with
 | nil=>exact List.Perm.refl _
 | cons y r ih =>
   unfold insG
   split
   ·exact (ih.cons y).trans (List.Perm.swap x y r)
   ·exact List.Perm.refl _
theorem insG_len (x:α) (X:List α):(insG nm x X).length=X.length+1:=by rw [(insG_perm nm x X).length_eq];rfl
theorem mem_insG {x y:α}{X:List α}:y∈insG nm x X↔y=x∨y∈X:=by rw [(insG_perm nm x X).mem_iff];simp
theorem risG_del {X:List α}(h:RisG nm X) (n:List UInt8):RisG nm (delG nm n X):=List.Pairwise.filter _ h
theorem risG_ins {X:List α}(h:RisG nm X) {x:α}(hn:∀ y∈X,nm y≠nm x):RisG nm (insG nm x X):=by
 induction X with
 | nil=>exact List.pairwise_singleton _ _
 | cons y r ih =>
   obtain ⟨h1,h2⟩:=List.pairwise_cons.1 h
   unfold insG
   split
   ·rename_i hlt
    rw [ltN_eq] at hlt
    refine List.pairwise_cons.2 ⟨fun z hz=>?_,ih h2 fun y hy=>hn y (by simp [hy])⟩
    rcases (mem_insG nm).1 hz with rfl | hz
    ·simpa using hlt
    ·exact h1 z hz
   ·rename_i hlt
    rw [ltN_eq] at hlt
    have h3:nm x < nm y:=lt_orF (by simpa using hlt) (hn y (by simp))
    refine List.pairwise_cons.2 ⟨fun z hz=>?_,h⟩
    rcases List.mem_cons.1 hz with rfl | hz
    ·exact h3
    ·exact List.lt_trans h3 (h1 z hz)
theorem risG_one {X:List α}(h:RisG nm X) {x y:α}(hx:x∈X) (hy:y∈X) (e:nm x=nm y):x=y:=by
 induction X with
 | nil=>cases hx
 | cons z r ih =>
   obtain ⟨h1,h2⟩:=List.pairwise_cons.1 h
   rcases List.mem_cons.1 hx with hx | hx
   ·rcases List.mem_cons.1 hy with hy | hy
    ·rw [hx,hy]
    ·have:=h1 y hy;rw [← hx,e] at this;exact absurd this (List.lt_irrefl _)
   ·rcases List.mem_cons.1 hy with hy | hy
    ·have:=h1 x hx;rw [← hy,e] at this;exact absurd this (List.lt_irrefl _)
    ·exact ih h2 hx hy
theorem insG_self {X:List α}(h:RisG nm X) {x:α}(hx:x∈X):insG nm x (delG nm (nm x) X)=X:=by
 induction X with
 | nil=>cases hx
 | cons y r ih =>
   obtain ⟨h1,h2⟩:=List.pairwise_cons.1 h
   rcases List.mem_cons.1 hx with rfl | hx
   ·have h3:∀ z∈r,nm z≠nm x:=fun z hz e=>by have:=h1 z hz;rw [e] at this;exact List.lt_irrefl _ this
    have h4:delG nm (nm x) (x :: r)=r:=by
     have h9:=delG_no nm h3
     unfold delG at h9 ⊢
     rw [List.filter_cons,h9];simp
    rw [h4]
    cases r with
    | nil=>rfl
    | cons z r =>
      have h5:=h1 z (by simp)
      have h6:¬ nm z < nm x:=fun e=>List.lt_irrefl _ (List.lt_trans h5 e)
      unfold insG
      rw [ltN_eq];simp [h6]
   ·have h5:=h1 x hx
    have h6:nm y≠nm x:=fun e=>by rw [e] at h5;exact List.lt_irrefl _ h5
    have h4:delG nm (nm x) (y :: r)=y :: delG nm (nm x) r:=by
     unfold delG
     rw [List.filter_cons];simp [h6]
    rw [h4]
    unfold insG
    rw [ltN_eq];simp [h5,ih h2 hx]
theorem insG_set {X:List α}(h:RisG nm X) {i:Nat}(hi:i < X.length) {x:α}(hx:nm x=nm X[i]):insG nm x (delG nm (nm x) X)=X.set i x:=by
 have h1:RisG nm (X.set i x):=by
  unfold RisG at h ⊢
  rw [List.pairwise_iff_getElem] at h ⊢
  intro a b ha hb hab
  have ha':a < X.length:=by simpa using ha
  have hb':b < X.length:=by simpa using hb
  have h0:=h a b ha' hb' hab
  rw [List.getElem_set,List.getElem_set]
  split
  ·rename_i e;subst e
   rw [if_neg (by omega),hx];exact h0
  ·split
   ·rename_i e;subst e;rw [hx];exact h0
   ·exact h0
 have h2:x∈X.set i x:=List.mem_set hi x
 have h3:=insG_self nm h1 h2
 have h4:delG nm (nm x) (X.set i x)=delG nm (nm x) X:=by
  have e1:X=X.take i++(X[i] :: X.drop (i+1)):=by rw [List.getElem_cons_drop,List.take_append_drop]
  have e2:X.set i x=X.take i++(x :: X.drop (i+1)):=by rw [List.set_eq_take_append_cons_drop,if_pos hi]
  have e3:delG nm (nm x) (X.take i++(X[i] :: X.drop (i+1)))=delG nm (nm x) (X.take i++(x :: X.drop (i+1))):=by
   unfold delG
   rw [List.filter_append,List.filter_append,List.filter_cons,List.filter_cons];simp [hx]
  rw [e2,← e3,← e1]
 rw [← h3,h4]
variable {β : Type} (nn : β → List UInt8) (f : α → β)
theorem insG_map (hf:∀ x,nn (f x)=nm x) (x:α) (X:List α):(insG nm x X).map f=insG nn (f x) (X.map f):=by
 induction X with
 | nil=>rfl
 | cons y r ih =>
   rw [List.map_cons]
   simp only [insG,hf]
   split
   ·rw [List.map_cons,ih]
   ·rfl
theorem delG_map (hf:∀ x,nn (f x)=nm x) (n:List UInt8) (X:List α):(delG nm n X).map f=delG nn n (X.map f):=by
 induction X with
 | nil=>rfl
 | cons y r ih =>
   unfold delG at ih ⊢
   rw [List.map_cons,List.filter_cons,List.filter_cons,hf]
   split
   ·rw [List.map_cons,ih]
   ·exact ih
theorem risG_map (hf:∀ x,nn (f x)=nm x) {X:List α}:RisG nn (X.map f)↔RisG nm X:=by
 unfold RisG
 rw [List.pairwise_map]
 simp only [hf]
end
theorem inF_cons (x y:Fl) (L:List Fl):inF x (y :: L)=if ltN y.n x.n=true then y :: inF x L else x :: y :: L:=by
 unfold inF
 rw [posF]
 split <;> simp
theorem inF_ins (x:Fl) (L:List Fl):inF x L=insG Fl.n x L:=by
 induction L with
 | nil=>rfl
 | cons y L ih =>
   rw [inF_cons,insG,ih]
theorem outF_del {L:List Fl}(h:RisG Fl.n L) {i:Nat}(hi:i < L.length) {n:List UInt8}(hn:L[i].n=n):outF L i=delG Fl.n n L:=by
 have e1:L=L.take i++(L[i] :: L.drop (i+1)):=by rw [List.getElem_cons_drop,List.take_append_drop]
 have h2:=h
 unfold RisG at h2
 rw [List.pairwise_iff_getElem] at h2
 have h3:∀ x∈L.take i,x.n≠n:=fun x hx e=>by
  obtain ⟨j,hj,rfl⟩:=List.getElem_of_mem hx
  rw [List.length_take] at hj
  have:=h2 j i (by omega) hi (by omega)
  rw [List.getElem_take] at e
  rw [e,hn] at this;exact List.lt_irrefl _ this
 have h4:∀ x∈L.drop (i+1),x.n≠n:=fun x hx e=>by
  obtain ⟨j,hj,rfl⟩:=List.getElem_of_mem hx
  rw [List.length_drop] at hj
  have:=h2 i (i+1+j) hi (by omega) (by omega)
  rw [List.getElem_drop] at e
  rw [e,hn] at this;exact List.lt_irrefl _ this
 have h5:=delG_no Fl.n h3
 have h6:=delG_no Fl.n h4
 have h7:delG Fl.n n (L.take i++(L[i] :: L.drop (i+1)))=L.take i++L.drop (i+1):=by
  unfold delG at h5 h6 ⊢
  rw [List.filter_append,List.filter_cons,h5,h6];simp [hn]
 rw [← e1] at h7
 rw [h7];rfl
theorem findF_none {n:List UInt8}{L:List Fl}(h:findF n L=none):∀ x∈L,x.n≠n:=by
 unfold findF at h
 rw [List.findIdx?_eq_none_iff] at h
 intro x hx e
 have:=h x hx
 simp [e] at this
def nmD (l:List (List UInt8 × Nat)):DataW Unit:=.map (l.map fun x=>(.string x.1,.lit (.int .i64 x.2)))
theorem beforeF:∀ (x y:List UInt8),bytesBefore x y=decide (x < y):=by
 intro x
 induction x with
 | nil=>intro y;cases y <;> simp [bytesBefore]
 | cons a x ih =>
   intro y
   cases y with
   | nil=>simp [bytesBefore]
   | cons b y =>
     simp only [bytesBefore,List.cons_lt_cons_iff]
     have h:=ih y
     by_cases h1:a < b
     ·simp [h1]
     ·by_cases h2:a=b
      ·subst h2;simp [h1,h]
      ·have h3:b < a:=by
        rcases UInt8.lt_or_lt_of_ne h2 with h | h
        ·exact absurd h h1
        ·exact h
       simp [h1,h2]
theorem same_keyF (a b:List UInt8):Lit.sameKey (.string a) (.string b)=decide (a=b):=by
 by_cases h:a=b <;> simp [Lit.sameKey,h]
theorem nmD_filter (l:List (List UInt8 × Nat)) (n:List UInt8):(l.map fun x=>((.string x.1,.lit (.int .i64 x.2)):Lit × DataW Unit)).filter (fun p=>!p.1.sameKey (.string n))=(delG Prod.fst n l).map fun x=>(.string x.1,.lit (.int .i64 x.2)):=by
 induction l with
 | nil=>rfl
 | cons y l ih =>
   unfold delG at ih ⊢
   rw [List.map_cons,List.filter_cons,List.filter_cons,ih]
   simp only [same_keyF]
   by_cases h:y.1=n <;> simp [h]
theorem nmD_insert {l:List (List UInt8 × Nat)}{n:List UInt8}(h:∀ x∈l,x.1≠n) (k:Nat):DataW.insert ((.string n,.lit (.int .i64 k)):Lit × DataW Unit) (l.map fun x=>(.string x.1,.lit (.int .i64 x.2)))=(insG Prod.fst (n,k) l).map fun x=>(.string x.1,.lit (.int .i64 x.2)):=by
 induction l with
 | nil=>rfl
 | cons y l ih =>
   have ih:=ih fun x hx=>h x (by simp [hx])
   have h0:=h y (by simp)
   unfold insG
   rw [List.map_cons]
   simp only [DataW.insert,Lit.before,beforeF,ltN_eq]
   by_cases h1:n < y.1
   ·have h2:¬ y.1 < n:=fun e=>List.lt_irrefl _ (List.lt_trans h1 e)
    simp [h1,h2]
   ·have h2:y.1 < n:=lt_orF h1 (fun e=>h0 e.symm)
    simp [h1,h2,ih]
theorem nmD_put (l:List (List UInt8 × Nat)) (n:List UInt8) (k:Nat):(nmD l).put (.string n) (.lit (.int .i64 k))=nmD (insG Prod.fst (n,k) (delG Prod.fst n l)):=by
 unfold nmD DataW.put
 simp only
 rw [nmD_filter,nmD_insert fun x hx=>((mem_delG _).1 hx).2]
theorem nmD_del (l:List (List UInt8 × Nat)) (n:List UInt8):(nmD l).del (.string n)=nmD (delG Prod.fst n l):=by
 unfold nmD DataW.del
 simp only
 rw [nmD_filter]
theorem nmD_at {l:List (List UInt8 × Nat)}(h:RisG Prod.fst l) {x:List UInt8 × Nat}(hx:x∈l) (z:DataW Unit):(nmD l).atKey (.string x.1) z=.lit (.int .i64 x.2):=by
 unfold nmD DataW.atKey
 simp only
 induction l with
 | nil=>cases hx
 | cons y l ih =>
   obtain ⟨h1,h2⟩:=List.pairwise_cons.1 h
   rcases List.mem_cons.1 hx with rfl | hx
   ·simp [same_keyF]
   ·have:¬ y.1=x.1:=fun e=>by have:=h1 x hx;rw [e] at this;exact List.lt_irrefl _ this
    simp only [List.map_cons,List.find?_cons,same_keyF,this,decide_false]
    exact ih h2 hx
theorem nmD_no {l:List (List UInt8 × Nat)}{n:List UInt8}(h:∀ x∈l,x.1≠n) (z:DataW Unit):(nmD l).atKey (.string n) z=z:=by
 unfold nmD DataW.atKey
 simp only
 induction l with
 | nil=>rfl
 | cons y l ih =>
   have h0:=h y (by simp)
   simp only [List.map_cons,List.find?_cons,same_keyF,h0,decide_false]
   exact ih fun x hx=>h x (by simp [hx])
theorem nmD_keys (l:List (List UInt8 × Nat)):strKeys (nmD l)=l.map (·.1):=by
 simp [nmD,strKeys,strOf,Function.comp_def]
theorem nmD_size (l:List (List UInt8 × Nat)):Maps.size (nmD l)=l.length:=by simp [nmD,Maps.size]
theorem nmD_sorted {l:List (List UInt8 × Nat)}(h:RisG Prod.fst l) {ss:List (List UInt8)}(hp:ss.Perm (strKeys (nmD l))):ss.mergeSort (fun x y=>decide (x≤y))=l.map (·.1):=by
 rw [nmD_keys] at hp
 have h1:=mergeSort_of_perm hp
 rw [show ss.mergeSort (fun x y=>decide (x≤y))=_ from h1]
 refine List.mergeSort_of_pairwise ?_
 rw [List.pairwise_map]
 refine List.Pairwise.imp ?_ h
 intro a b hab
 simp only [leB,decide_eq_true_eq]
 exact List.le_of_lt hab
theorem nmD_tight {P:Program}{k:TypeId}{R:Value→Option (DataW Unit × List MemPlace)}{w:World}{b n:Nat}{l:List (List UInt8 × Nat)}(h:w.ownsMap P k R b n (nmD l)):w.ownsMap P k R b l.length (nmD l):=by
 obtain ⟨es,clock,h1,h2,h3,h4⟩:=h
 refine ⟨es,clock,h1,h2,?_,h4⟩
 have h5:=congrArg Maps.size h4
 rw [nmD_size] at h5
 simp only [Maps.size,length_sorted] at h5
 simp at h5
 omega
def ptR:Value→Option (DataW Unit × List MemPlace)
 | .pointer none=>some (.lit (.int .i64 (-1)),[])
 | .pointer (some ⟨b,0,none⟩)=>some (.lit (.int .i64 b),[])
 | _=>none
theorem ptR_mk (b:Nat):ptR (.pointer (some ⟨b,0,none⟩))=some (.lit (.int .i64 b),[]):=rfl
theorem ptR_nil:ptR (.pointer none)=some (.lit (.int .i64 (-1)),[]):=rfl
theorem ptR_inv {v:Value}{b:Nat}{ps:List MemPlace}(h:ptR v=some (.lit (.int .i64 b),ps)):v=.pointer (some ⟨b,0,none⟩):=by
 unfold ptR at h
 split at h
 ·simp at h
 ·simp at h;obtain ⟨h1,_⟩:=h;have:_=b:=Int.ofNat.inj h1;subst this;rfl
 ·cases h
theorem ptR_inv0 {v:Value}{ps:List MemPlace}(h:ptR v=some (.lit (.int .i64 (-1)),ps)):v=.pointer none:=by
 unfold ptR at h
 split at h
 ·rfl
 ·simp at h
 ·cases h
end Go.Proofs.Yteiagkjhmhllnaa
