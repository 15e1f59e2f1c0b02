/-
  Texts of this claim that are laid as one: App, PaPure, ChPure, Base, PaStr.
-/
import Derived.WalkKit
import Derived.Laws.AppendOwnNone
import Derived.Lib.Bytealg
import Derived.Lib.Strings
import Derived.Lib.Join
import Derived.OneCell
import Derived.Laws.IdiomStrings
import Derived.Lib.CutLaws
/-
  append onto a row that is owned: the new row lies where the old one lay, or in a new block.
-/
namespace Go.Proofs.Ytddkaagdkmmknab
open Go.RowKit

variable {P : Program} (w : World)

theorem append_fresh (base : Nat) (t ty e : TypeId) (i : TypeInfo) (z : Value) (size bytes : Nat) (ht : P.underlying t = some (.slice e)) (hi : P.info? e = some i) (hz : i.zero = some z)
    (hsize : i.size = size) (hby : i.bytes = bytes) (hzs : z.cells.size = size) (hsz : 0 < size)
    (v : Value) (n : Nat) (xs : List Value) (hown : w.ownsRow base e size v n xs)
    (a : Addr) (m c : Nat) (news : List Value) (hl : news.length = m * size) (hnews : ∀ j u, news[j]? = some u → w.cell? (a.add j) = some u) (h1 : ∀ u ∈ news, u.oneCell' = true)
    (h63 : n + m ≤ maxLen) (hbytes : (n + m) * bytes ≤ 140737488355328)
    (v' : Value) (w' : World) (hr : (Builtin.append_ #[t, t] ty #[v, .slice (some a) m c]).run P w = .ok v' w') :
    ∀ k, v'.ownBlock = some k → v.ownBlock = some k ∨ w.heap.size ≤ k := by
  intro k hk
  rcases hown.2 with ⟨rfl, rfl⟩ | ⟨g, cap, cur, rfl, hbg, hg, hnc, hcm, hcs, htake⟩
  · have hx : xs = [] := List.eq_nil_of_length_eq_zero (by simpa using hown.1)
    subst hx
    obtain ⟨v2, w2, hr2, ho2, _⟩ := run_append_own (P := P) w w.heap.size t ty e i z size bytes ht hi hz hsize hby hzs hsz _ _ _ (World.ownsRow_nil w w.heap.size e size) a m c news hl hnews h1 h63 hbytes (Nat.le_refl _)
    rw [hr] at hr2
    obtain ⟨rfl, rfl⟩ : v' = v2 ∧ w' = w2 := by simpa using hr2
    exact .inr (ho2.lt k hk).1
  · subst hsize
    by_cases hroom : n + m ≤ cap
    · have hfit : n * i.size + news.length ≤ cur.size := by rw [hl, hcs, ← Nat.add_mul]; exact Nat.mul_le_mul_right _ hroom
      have hr2 := run_append_room (P := P) w t ty e i ht hi g n cap cur hg a m c news hl hnews h1 hroom hfit
      rw [hr2] at hr
      have : v' = .slice (some ⟨g, 0, none⟩) (n + m) cap := by simp at hr; exact hr.1.symm
      subst this
      exact .inl hk
    · have hr2 := run_append_grow (P := P) w t ty e i z ht hi hz ⟨g, 0, none⟩ n cap xs hown.1 (hown.cells (g := g) rfl) a m c news hl hnews (by omega) (by unfold maxLen at h63; omega) (growslice_fits (by omega) (by rw [hby]; exact hbytes))
      rw [hr2] at hr
      have : v'.ownBlock = some w.heap.size := by simp at hr; rw [← hr.1]; rfl
      rw [this] at hk; cases hk
      exact .inr (Nat.le_refl _)

theorem wpList_append2 {ops : Array Oper} {rest : List Oper} {o : Oper} {a : Act} {Q : Exit → Act → World → Prop} (hgd : o.guard = none) (s x : Operand) (t : TypeId)
    (ho : o.op = .call { callee := .builtin .append, args := #[s, x], argTypes := #[t, t] })
    (e : TypeId) (i : TypeInfo) (z : Value) (size bytes : Nat) (ht : P.underlying t = some (.slice e)) (hi : P.info? e = some i) (hz : i.zero = some z)
    (hsize : i.size = size) (hby : i.bytes = bytes) (hzs : z.cells.size = size) (hsz : 0 < size)
    (v : Value) (n : Nat) (xs : List Value) (hs : a.eval s = v) (hown : w.ownsRow 0 e size v n xs)
    (ad : Addr) (m c : Nat) (news : List Value) (hx : a.eval x = .slice (some ad) m c) (hl : news.length = m * size) (hnews : ∀ j u, news[j]? = some u → w.cell? (ad.add j) = some u) (h1 : ∀ u ∈ news, u.oneCell' = true)
    (h63 : n + m ≤ maxLen) (hbytes : (n + m) * bytes ≤ 140737488355328)
    (h : ∀ v' w', w'.ownsRow 0 e size v' (n + m) (xs ++ news) → w.grownBy w' v.ownBlock → (∀ k, v'.ownBlock = some k → v.ownBlock = some k ∨ w.heap.size ≤ k) → wpList P ops Q rest (a.put o.dst v') w') : wpList P ops Q (o :: rest) a w :=
  wpList_plain hgd fun _ hK => by
    obtain ⟨v', w', hr, h2, h3, h4⟩ := run_append_own (P := P) w 0 t o.type e i z size bytes ht hi hz hsize hby hzs hsz v n xs hown ad m c news hl hnews h1 h63 hbytes (Nat.zero_le _)
    have h5 := append_fresh (P := P) w 0 t o.type e i z size bytes ht hi hz hsize hby hzs hsz v n xs hown ad m c news hl hnews h1 h63 hbytes v' w' hr
    unfold Oper.wp execOp
    simp only [ho, resolve, invoke, builtin, Sem.run_bind, Sem.run_pure, Result.andThen_ok, List.map_toArray, List.map_cons, List.map_nil, hs, hx, hr]
    exact hK _ _ (h v' w' h2 h3 h5)

end Go.Proofs.Ytddkaagdkmmknab

/-
  Texts by parts: the parts of a text, their order, what is left of them when "", "." and ".." have done their work: plain functions on lists of bytes, of no program.
-/
namespace Go.Proofs.Ytddkaagdkmmknab

/-- The parts of a text: what stands between its bytes 47. -/
def partsB : List UInt8 → List (List UInt8)
  | [] => [[]]
  | c :: t => if c = 47 then [] :: partsB t else match partsB t with
    | [] => [[c]]
    | p :: ps => (c :: p) :: ps

theorem partsB_cons (c : UInt8) (t : List UInt8) : partsB (c :: t) = if c = 47 then [] :: partsB t else match partsB t with
    | [] => [[c]]
    | p :: ps => (c :: p) :: ps := rfl

theorem partsB_ne (l : List UInt8) : partsB l ≠ [] := by
  induction l with
  | nil => simp [partsB]
  | cons c t ih =>
    unfold partsB
    split
    · simp
    · split <;> simp

theorem partsB_miss (l : List UInt8) (h : (47 : UInt8) ∉ l) : partsB l = [l] := by
  induction l with
  | nil => rfl
  | cons c t ih =>
    simp only [List.mem_cons, not_or] at h
    unfold partsB
    rw [if_neg (fun e => h.1 e.symm), ih h.2]

theorem partsB_hit (a b : List UInt8) (h : (47 : UInt8) ∉ a) : partsB (a ++ 47 :: b) = a :: partsB b := by
  induction a with
  | nil => simp [partsB]
  | cons c t ih =>
    simp only [List.mem_cons, not_or] at h
    rw [List.cons_append, partsB_cons, if_neg (fun e => h.1 e.symm), ih h.2]

theorem partsB_free (l : List UInt8) : ∀ p ∈ partsB l, (47 : UInt8) ∉ p := by
  induction l with
  | nil => simp [partsB]
  | cons c t ih =>
    unfold partsB
    split
    · intro p hp; simp only [List.mem_cons] at hp; rcases hp with rfl | hp; simp; exact ih p hp
    · rename_i hc
      split
      · intro p hp; simp only [List.mem_singleton] at hp; subst hp; simpa using fun e => hc e.symm
      · rename_i q qs hq
        rw [hq] at ih
        intro p hp
        simp only [List.mem_cons] at hp
        rcases hp with rfl | hp
        · simp only [List.mem_cons, not_or]; exact ⟨fun e => hc e.symm, ih q (by simp)⟩
        · exact ih p (by simp [hp])

/-- The first byte 47, or none. -/
theorem split47 (l : List UInt8) : (47 : UInt8) ∉ l ∨ ∃ a b, l = a ++ 47 :: b ∧ (47 : UInt8) ∉ a := by
  induction l with
  | nil => exact .inl (by simp)
  | cons c t ih =>
    by_cases hc : c = 47
    · exact .inr ⟨[], t, by simp [hc], by simp⟩
    · rcases ih with h | ⟨a, b, rfl, h⟩
      · exact .inl (by simp only [List.mem_cons, not_or]; exact ⟨fun e => hc e.symm, h⟩)
      · exact .inr ⟨c :: a, b, rfl, by simp only [List.mem_cons, not_or]; exact ⟨fun e => hc e.symm, h⟩⟩

theorem partsB_app (a b : List UInt8) : partsB (a ++ 47 :: b) = partsB a ++ partsB b := by
  induction a with
  | nil => simp [partsB]
  | cons c t ih =>
    rw [List.cons_append, partsB_cons, partsB_cons, ih]
    by_cases hc : c = 47
    · simp [hc]
    · simp only [hc, if_false]
      have := partsB_ne t
      cases h : partsB t with
      | nil => exact absurd h this
      | cons p ps => simp

/-- The parts, joined. -/
def joinB (ps : List (List UInt8)) : List UInt8 := Lib.join ps [47]

theorem joinB_one (p : List UInt8) : joinB [p] = p := Lib.join_one p [47]

theorem joinB_cons2 (p q : List UInt8) (r : List (List UInt8)) : joinB (p :: q :: r) = p ++ 47 :: joinB (q :: r) := by
  unfold joinB
  rw [Lib.join_cons, Lib.join_cons]
  simp [Lib.joinTail]

theorem joinB_parts (l : List UInt8) : joinB (partsB l) = l := by
  induction l with
  | nil => rfl
  | cons c t ih =>
    unfold partsB
    have hne := partsB_ne t
    by_cases hc : c = 47
    · rw [if_pos hc]
      cases h : partsB t with
      | nil => exact absurd h hne
      | cons p ps => rw [joinB_cons2, ← h, ih, hc]; rfl
    · rw [if_neg hc]
      cases h : partsB t with
      | nil => exact absurd h hne
      | cons p ps =>
        rw [h] at ih
        cases ps with
        | nil => rw [joinB_one] at ih; rw [joinB_one, ih]
        | cons q qs => rw [joinB_cons2] at ih; rw [joinB_cons2, ← ih]; rfl

theorem parts_join (ps : List (List UInt8)) (hne : ps ≠ []) (h : ∀ p ∈ ps, (47 : UInt8) ∉ p) : partsB (joinB ps) = ps := by
  induction ps with
  | nil => exact absurd rfl hne
  | cons p r ih =>
    cases r with
    | nil => rw [joinB_one, partsB_miss p (h p (by simp))]
    | cons q r =>
      rw [joinB_cons2, partsB_hit _ _ (h p (by simp)), ih (by simp) (fun x hx => h x (by simp [hx]))]

theorem joinB_app (x y : List (List UInt8)) (hx : x ≠ []) (hy : y ≠ []) : joinB (x ++ y) = joinB x ++ 47 :: joinB y := by
  induction x with
  | nil => exact absurd rfl hx
  | cons p r ih =>
    cases r with
    | nil =>
      cases y with
      | nil => exact absurd rfl hy
      | cons q y => rw [joinB_one]; exact joinB_cons2 p q y
    | cons q r =>
      rw [joinB_cons2, List.cons_append, List.cons_append, joinB_cons2, ← List.cons_append, ih (by simp)]; simp

theorem partsB_inj {a b : List UInt8} (h : partsB a = partsB b) : a = b := by rw [← joinB_parts a, h, joinB_parts b]

/-- How many bytes 47, and one more: how many parts. -/
theorem partsB_length (l : List UInt8) : (partsB l).length = l.countP (· = 47) + 1 := by
  induction l with
  | nil => rfl
  | cons c t ih =>
    unfold partsB
    by_cases hc : c = 47
    · rw [if_pos hc, List.length_cons, ih, List.countP_cons]; simp [hc]
    · rw [if_neg hc, List.countP_cons]
      have hne := partsB_ne t
      cases h : partsB t with
      | nil => exact absurd h hne
      | cons p ps => rw [h] at ih; simp only [List.length_cons] at ih ⊢; simp [hc]; omega

theorem partsB_le (l : List UInt8) : (partsB l).length ≤ l.length + 1 := by
  rw [partsB_length]
  have := List.countP_le_length (p := fun c : UInt8 => decide (c = 47)) (l := l)
  omega

/- The order. -/

structure Ord3 {α : Type} (c : α → α → Int) : Prop where
  anti : ∀ a b, c b a = - c a b
  zero : ∀ a b, c a b = 0 ↔ a = b
  trans : ∀ a b d, c a b ≤ 0 → c b d ≤ 0 → c a d ≤ 0

def lexC {α : Type} (c : α → α → Int) : List α → List α → Int
  | [], [] => 0
  | [], _ :: _ => -1
  | _ :: _, [] => 1
  | a :: as, b :: bs => if c a b = 0 then lexC c as bs else c a b

theorem Ord3.lex {α : Type} {c : α → α → Int} (h : Ord3 c) : Ord3 (lexC c) := by
  refine ⟨?_, ?_, ?_⟩
  · intro a
    induction a with
    | nil => intro b; cases b <;> simp [lexC]
    | cons x a ih =>
      intro b
      cases b with
      | nil => simp [lexC]
      | cons y b =>
        simp only [lexC]
        rw [h.anti x y, ih b]
        by_cases hc : c x y = 0
        · simp [hc]
        · rw [if_neg (by omega), if_neg hc]
  · intro a
    induction a with
    | nil => intro b; cases b <;> simp [lexC]
    | cons x a ih =>
      intro b
      cases b with
      | nil => simp [lexC]
      | cons y b =>
        simp only [lexC, List.cons.injEq]
        by_cases hc : c x y = 0
        · rw [if_pos hc, ih b]; simp [(h.zero x y).1 hc]
        · rw [if_neg hc]; constructor
          · intro e; exact absurd e hc
          · rintro ⟨e, _⟩; exact absurd ((h.zero x y).2 e) hc
  · intro a
    induction a with
    | nil => intro b d _ _; cases d <;> simp [lexC]
    | cons x a ih =>
      intro b d hab hbd
      cases b with
      | nil => simp [lexC] at hab
      | cons y b =>
        cases d with
        | nil => simp [lexC] at hbd
        | cons z d =>
          simp only [lexC] at hab hbd ⊢
          have hxy : c x y ≤ 0 := by by_cases e : c x y = 0 <;> simp [e] at hab <;> omega
          have hyz : c y z ≤ 0 := by by_cases e : c y z = 0 <;> simp [e] at hbd <;> omega
          have hxz := h.trans x y z hxy hyz
          by_cases e : c x z = 0
          · rw [if_pos e]
            have := (h.zero x z).1 e
            subst this
            have hyx := h.anti x y
            have e1 : c x y = 0 := by omega
            rw [if_pos e1] at hab
            have := (h.zero x y).1 e1
            subst this
            rw [if_pos e] at hbd
            exact ih b d hab hbd
          · rw [if_neg e]; exact hxz

theorem Ord3.strict {α : Type} {c : α → α → Int} (h : Ord3 c) {x y z : α} (h1 : c x y ≤ 0) (h2 : c y z ≤ 0) : c x z ≤ 0 ∧ (c x z < 0 ∨ (c x y = 0 ∧ c y z = 0)) := by
  have h3 := h.trans x y z h1 h2
  refine ⟨h3, ?_⟩
  by_cases e : c x z = 0
  · right
    have := (h.zero x z).1 e
    subst this
    have := h.anti x y
    omega
  · left; omega

/-- Of two bytes. -/
def cmp8 (a b : UInt8) : Int := if a < b then -1 else if b < a then 1 else 0

theorem ord8 : Ord3 cmp8 := by
  refine ⟨?_, ?_, ?_⟩
  · intro a b
    unfold cmp8
    simp only [UInt8.lt_iff_toNat_lt]
    split <;> split <;> first | rfl | omega | (split <;> first | rfl | omega) | skip
  · intro a b
    unfold cmp8
    rw [← UInt8.toNat_inj]
    simp only [UInt8.lt_iff_toNat_lt]
    split
    · constructor <;> intro h <;> omega
    · split
      · constructor <;> intro h <;> omega
      · constructor <;> intro h <;> omega
  · intro a b d
    unfold cmp8
    simp only [UInt8.lt_iff_toNat_lt]
    intro h1 h2
    split
    · omega
    · split
      · split at h1
        · split at h2
          · omega
          · split at h2 <;> omega
        · split at h1
          · omega
          · split at h2
            · omega
            · split at h2 <;> omega
      · omega

theorem compare_lex : ∀ a b : List UInt8, Lib.compareBytes a b = lexC cmp8 a b
  | [], [] => rfl
  | [], _ :: _ => rfl
  | _ :: _, [] => rfl
  | x :: a, y :: b => by
    unfold Lib.compareBytes lexC
    rw [compare_lex a b]
    unfold cmp8
    split
    · simp
    · split <;> simp

theorem ordB : Ord3 Lib.compareBytes := by
  have : Lib.compareBytes = lexC cmp8 := by funext a b; exact compare_lex a b
  rw [this]; exact ord8.lex

/-- The order of parts. -/
def cmpP : List (List UInt8) → List (List UInt8) → Int := lexC Lib.compareBytes

theorem ordP : Ord3 cmpP := ordB.lex

/-- The order of texts. -/
def cmpT (a b : List UInt8) : Int := cmpP (partsB a) (partsB b)

theorem ordT : Ord3 cmpT :=
  ⟨fun a b => ordP.anti _ _, fun a b => ⟨fun h => partsB_inj ((ordP.zero _ _).1 h), fun h => by rw [h]; exact (ordP.zero _ _).2 rfl⟩, fun a b d => ordP.trans _ _ _⟩

theorem compare_vals (a b : List UInt8) : Lib.compareBytes a b = -1 ∨ Lib.compareBytes a b = 0 ∨ Lib.compareBytes a b = 1 := by
  fun_induction Lib.compareBytes a b <;> simp_all

theorem cmpP_vals (a b : List (List UInt8)) : cmpP a b = -1 ∨ cmpP a b = 0 ∨ cmpP a b = 1 := by
  unfold cmpP
  induction a generalizing b with
  | nil => cases b <;> simp [lexC]
  | cons x a ih =>
    cases b with
    | nil => simp [lexC]
    | cons y b =>
      simp only [lexC]
      split
      · exact ih b
      · exact compare_vals x y

theorem cmpP_prefix (x y : List (List UInt8)) : cmpP x (x ++ y) ≤ 0 := by
  unfold cmpP
  induction x with
  | nil => cases y <;> simp [lexC]
  | cons p x ih =>
    simp only [List.cons_append, lexC]
    rw [if_pos ((ordB.zero p p).2 rfl)]; exact ih

theorem cmpP_between (x y z : List (List UInt8)) (h1 : cmpP x z ≤ 0) (h2 : cmpP z (x ++ y) ≤ 0) : ∃ t, z = x ++ t := by
  unfold cmpP at h1 h2
  induction x generalizing z with
  | nil => exact ⟨z, rfl⟩
  | cons p x ih =>
    cases z with
    | nil => simp [lexC] at h1
    | cons q z =>
      simp only [List.cons_append, lexC] at h1 h2
      have a1 : Lib.compareBytes p q ≤ 0 := by by_cases e : Lib.compareBytes p q = 0 <;> simp [e] at h1 <;> omega
      have a2 : Lib.compareBytes q p ≤ 0 := by by_cases e : Lib.compareBytes q p = 0 <;> simp [e] at h2 <;> omega
      have a3 := ordB.anti p q
      have e1 : Lib.compareBytes p q = 0 := by omega
      have e2 : Lib.compareBytes q p = 0 := by omega
      rw [if_pos e1] at h1
      rw [if_pos e2] at h2
      have := (ordB.zero p q).1 e1
      subst this
      obtain ⟨t, rfl⟩ := ih z h1 h2
      exact ⟨t, rfl⟩

/- What is within. -/

def withinB (d p : List UInt8) : Bool := d.isEmpty || p == d || (d ++ [47]).isPrefixOf p

theorem withinB_iff (d p : List UInt8) : withinB d p = true ↔ d = [] ∨ p = d ∨ ∃ t, p = d ++ 47 :: t := by
  unfold withinB
  simp only [Bool.or_eq_true, List.isEmpty_iff, beq_iff_eq, List.isPrefixOf_iff_prefix, or_assoc]
  constructor
  · rintro (h | h | ⟨t, h⟩)
    · exact .inl h
    · exact .inr (.inl h)
    · exact .inr (.inr ⟨t, by rw [← h]; simp⟩)
  · rintro (h | h | ⟨t, h⟩)
    · exact .inl h
    · exact .inr (.inl h)
    · exact .inr (.inr ⟨t, by rw [h]; simp⟩)

theorem within_first (d p : List UInt8) (hd : d ≠ []) (h : withinB d p = true) : cmpT d p ≤ 0 := by
  rcases (withinB_iff d p).1 h with h | rfl | ⟨t, rfl⟩
  · exact absurd h hd
  · exact Int.le_of_eq ((ordT.zero p p).2 rfl)
  · unfold cmpT; rw [partsB_app]; exact cmpP_prefix _ _

theorem within_between (d p b : List UInt8) (h1 : cmpT d p ≤ 0) (h2 : cmpT p (d ++ 47 :: b) ≤ 0) : withinB d p = true := by
  unfold cmpT at h1 h2
  rw [partsB_app] at h2
  obtain ⟨t, ht⟩ := cmpP_between _ _ _ h1 h2
  refine (withinB_iff d p).2 (.inr ?_)
  by_cases e : t = []
  · subst e; rw [List.append_nil] at ht; exact .inl (partsB_inj ht)
  · refine .inr ⟨joinB t, ?_⟩
    rw [← joinB_parts p, ht, joinB_app _ _ (partsB_ne d) e, joinB_parts]

/- The one form of a path. -/

/-- What is left of the parts, behind those that are there. -/
def resB : List (List UInt8) → List (List UInt8) → Option (List (List UInt8))
  | k, [] => some k
  | k, p :: ps => if p = [] ∨ p = [46] then resB k ps else if p = [46, 46] then (if k = [] then none else resB k.dropLast ps) else resB (k ++ [p]) ps

def letB (point : Bool) (c : UInt8) : Bool := (97 ≤ c && c ≤ 122) || (48 ≤ c && c ≤ 57) || c == 95 || c == 45 || (point && c == 46)

/-- 1 to 24 such bytes. -/
def wordB (point : Bool) (l : List UInt8) : Bool := 0 < l.length && l.length ≤ 24 && l.all (letB point)

/-- What is left makes a path, or none. -/
def finB (k : List (List UInt8)) : Option (List UInt8) :=
  if k = [] ∨ 8 < k.length then none else if k.all (wordB true) = true ∧ (joinB k).length ≤ 64 then some (joinB k) else none

def normB (l : List UInt8) : Option (List UInt8) := (resB [] (partsB l)).bind finB

/-- A part that stays. -/
def Stays (p : List UInt8) : Prop := p ≠ [] ∧ p ≠ [46] ∧ p ≠ [46, 46] ∧ (47 : UInt8) ∉ p

theorem resB_stays (k ps r : List (List UInt8)) (hk : ∀ p ∈ k, Stays p) (hp : ∀ p ∈ ps, (47 : UInt8) ∉ p) (h : resB k ps = some r) : ∀ p ∈ r, Stays p := by
  induction ps generalizing k with
  | nil => simp only [resB, Option.some.injEq] at h; subst h; exact hk
  | cons q ps ih =>
    simp only [resB] at h
    have hps : ∀ p ∈ ps, (47 : UInt8) ∉ p := fun p h => hp p (by simp [h])
    split at h
    · exact ih k hk hps h
    · rename_i h1
      simp only [not_or] at h1
      split at h
      · split at h
        · cases h
        · exact ih _ (fun p h => hk p (List.dropLast_subset k h)) hps h
      · rename_i h2
        refine ih _ ?_ hps h
        intro p hm
        simp only [List.mem_append, List.mem_singleton] at hm
        rcases hm with hm | rfl
        · exact hk p hm
        · exact ⟨h1.1, h1.2, h2, hp p (by simp)⟩

theorem resB_app (k x y : List (List UInt8)) : resB k (x ++ y) = (resB k x).bind fun r => resB r y := by
  induction x generalizing k with
  | nil => simp [resB]
  | cons p x ih =>
    simp only [List.cons_append, resB]
    split
    · exact ih k
    · split
      · split
        · rfl
        · exact ih _
      · exact ih _

theorem resB_same (k ps : List (List UInt8)) (h : ∀ p ∈ ps, Stays p) : resB k ps = some (k ++ ps) := by
  induction ps generalizing k with
  | nil => simp [resB]
  | cons p ps ih =>
    obtain ⟨h1, h2, h3, _⟩ := h p (by simp)
    simp only [resB]
    rw [if_neg (by simp [h1, h2]), if_neg h3, ih _ (fun q hq => h q (by simp [hq]))]
    simp

theorem resB_under (j k ps r : List (List UInt8)) (h : resB k ps = some r) : resB (j ++ k) ps = some (j ++ r) := by
  induction ps generalizing k with
  | nil => simp only [resB, Option.some.injEq] at h ⊢; rw [h]
  | cons p ps ih =>
    simp only [resB] at h ⊢
    split
    · rename_i h1; rw [if_pos h1] at h; exact ih k h
    · rename_i h1
      rw [if_neg h1] at h
      split
      · rename_i h2
        rw [if_pos h2] at h
        split at h
        · cases h
        · rename_i h3
          rw [if_neg (by simp [h3]), List.dropLast_append_of_ne_nil h3]
          exact ih _ h
      · rename_i h2
        rw [if_neg h2] at h
        rw [List.append_assoc]; exact ih _ h

theorem finB_some {k : List (List UInt8)} {p : List UInt8} (h : finB k = some p) : k ≠ [] ∧ k.length ≤ 8 ∧ k.all (wordB true) = true ∧ (joinB k).length ≤ 64 ∧ p = joinB k := by
  unfold finB at h
  split at h
  · cases h
  · rename_i h1
    simp only [not_or] at h1
    split at h
    · rename_i h2; simp only [Option.some.injEq] at h; exact ⟨h1.1, by omega, h2.1, h2.2, h.symm⟩
    · cases h

/-- What a path is made of. -/
theorem normB_some {l p : List UInt8} (h : normB l = some p) : ∃ k, resB [] (partsB l) = some k ∧ finB k = some p ∧ (∀ q ∈ k, Stays q) ∧ partsB p = k := by
  unfold normB at h
  cases hr : resB [] (partsB l) with
  | none => rw [hr] at h; cases h
  | some k =>
    rw [hr] at h
    have hf : finB k = some p := h
    have hs := resB_stays [] _ k (by simp) (partsB_free l) hr
    obtain ⟨h1, h2, h3, h4, rfl⟩ := finB_some hf
    exact ⟨k, rfl, hf, hs, parts_join k h1 (fun q hq => (hs q hq).2.2.2)⟩

theorem normB_again {l p : List UInt8} (h : normB l = some p) : normB p = some p := by
  obtain ⟨k, h1, h2, h3, h4⟩ := normB_some h
  unfold normB
  rw [h4, resB_same _ _ h3]
  simpa using h2

theorem normB_len {l p : List UInt8} (h : normB l = some p) : p.length ≤ 64 := by
  obtain ⟨k, h1, h2, h3, h4⟩ := normB_some h
  obtain ⟨_, _, _, h5, rfl⟩ := finB_some h2
  exact h5

/-- Two paths, one behind the other. -/
theorem norm_join {a b p q : List UInt8} (ha : normB a = some p) (hb : normB b = some q) :
    ∃ j k, finB j = some p ∧ finB k = some q ∧ normB ([47, 46, 47] ++ a ++ [47, 47, 46, 47] ++ b ++ [47]) = finB (j ++ k) ∧ normB (p ++ [47] ++ q) = finB (j ++ k) ∧ normB (a ++ [47, 120, 47, 46, 46, 47] ++ [121, 47, 46, 46]) = some p
      ∧ partsB (p ++ [47] ++ q) = j ++ k ∧ joinB (j ++ k) = p ++ [47] ++ q := by
  obtain ⟨j, j1, j2, j3, j4⟩ := normB_some ha
  obtain ⟨k, k1, k2, k3, k4⟩ := normB_some hb
  obtain ⟨j5, _, _, _, j6⟩ := finB_some j2
  obtain ⟨k5, _, _, _, k6⟩ := finB_some k2
  have hpq : partsB (p ++ [47] ++ q) = j ++ k := by
    rw [List.append_assoc, List.singleton_append, partsB_app, j4, k4]
  refine ⟨j, k, j2, k2, ?_, ?_, ?_, hpq, ?_⟩
  · have e : partsB ([47, 46, 47] ++ a ++ [47, 47, 46, 47] ++ b ++ [47]) = [[], [46]] ++ (partsB a ++ ([[], [46]] ++ (partsB b ++ [[]]))) := by
      have e1 : [47, 46, 47] ++ a ++ [47, 47, 46, 47] ++ b ++ [47] = [] ++ 47 :: ([46] ++ 47 :: (a ++ 47 :: ([] ++ 47 :: ([46] ++ 47 :: (b ++ 47 :: []))))) := by simp
      rw [e1, partsB_app, partsB_app, partsB_app, partsB_app, partsB_app, partsB_app]
      rfl
    unfold normB
    rw [e]
    have h1 : resB [] ([[], [46]] ++ (partsB a ++ ([[], [46]] ++ (partsB b ++ [[]])))) = resB [] (partsB a ++ ([[], [46]] ++ (partsB b ++ [[]]))) := by simp [resB]
    rw [h1, resB_app, j1]
    have h2 : resB j ([[], [46]] ++ (partsB b ++ [[]])) = resB j (partsB b ++ [[]]) := by simp [resB]
    simp only [Option.bind]
    rw [h2, resB_app]
    have h3 := resB_under j [] _ _ k1
    rw [List.append_nil] at h3
    rw [h3]
    simp [resB]
  · unfold normB
    rw [hpq, resB_same _ _ (by intro x hx; simp only [List.mem_append] at hx; rcases hx with h | h; exact j3 x h; exact k3 x h)]
    rfl
  · have e1 : a ++ [47, 120, 47, 46, 46, 47] ++ [121, 47, 46, 46] = a ++ 47 :: ([120] ++ 47 :: ([46, 46] ++ 47 :: ([121] ++ 47 :: [46, 46]))) := by simp
    unfold normB
    rw [e1, partsB_app, partsB_app, partsB_app, partsB_app, resB_app, j1]
    have h1 : resB j (partsB [120] ++ (partsB [46, 46] ++ (partsB [121] ++ partsB [46, 46]))) = some j := by
      have e2 : partsB [120] ++ (partsB [46, 46] ++ (partsB [121] ++ partsB [46, 46])) = [[120], [46, 46], [121], [46, 46]] := rfl
      rw [e2]
      simp [resB]
    simp only [Option.bind]
    rw [h1]
    exact j2
  · rw [joinB_app _ _ j5 k5, j6, k6]; simp

/-- If two paths, one behind the other, are none, it is too long, or too deep. -/
theorem norm_join_not {j k : List (List UInt8)} {p q : List UInt8} (hj : finB j = some p) (hk : finB k = some q) (h : finB (j ++ k) = none) : 8 < (j ++ k).length ∨ 64 < (joinB (j ++ k)).length := by
  obtain ⟨j5, _, j7, _, _⟩ := finB_some hj
  obtain ⟨k5, _, k7, _, _⟩ := finB_some hk
  unfold finB at h
  split at h
  · rename_i h1
    rcases h1 with h1 | h1
    · simp [j5] at h1
    · exact .inl h1
  · split at h
    · cases h
    · rename_i h2
      simp only [List.all_append, j7, k7, Bool.and_self, true_and, Nat.not_le] at h2
      exact .inr h2

end Go.Proofs.Ytddkaagdkmmknab

/-
  Changes and their order: lists that rise, lists that have of each path the same changes in the same order; rows as functions of places.
-/
namespace Go.Proofs.Ytddkaagdkmmknab

/-- A change. -/
structure Ch where
  p : List UInt8
  g : Bool
  d : Int
deriving DecidableEq

/-- Their paths rise, or stay. -/
def Ris (L : List Ch) : Prop := L.Pairwise fun a b => cmpT a.p b.p ≤ 0

/-- Those of one path. -/
def ofP (k : List UInt8) (L : List Ch) : List Ch := L.filter fun x => decide (x.p = k)

/-- Of each path they have the same, in the same order. -/
def Alike (L M : List Ch) : Prop := ∀ k, ofP k L = ofP k M

theorem Alike.refl (L : List Ch) : Alike L L := fun _ => rfl
theorem Alike.symm {L M : List Ch} (h : Alike L M) : Alike M L := fun k => (h k).symm
theorem Alike.trans {L M K : List Ch} (h : Alike L M) (h2 : Alike M K) : Alike L K := fun k => (h k).trans (h2 k)
theorem ofP_app (k : List UInt8) (L M : List Ch) : ofP k (L ++ M) = ofP k L ++ ofP k M := List.filter_append ..
theorem Alike.app {L L' M M' : List Ch} (h : Alike L L') (h2 : Alike M M') : Alike (L ++ M) (L' ++ M') := fun k => by
  rw [ofP_app, ofP_app, h k, h2 k]

theorem ofP_none {k : List UInt8} {L : List Ch} (h : ∀ x ∈ L, x.p ≠ k) : ofP k L = [] := by
  unfold ofP
  rw [List.filter_eq_nil_iff]
  intro x hx
  simpa using h x hx

theorem Alike.swap {U V : List Ch} (h : ∀ u ∈ U, ∀ v ∈ V, u.p ≠ v.p) : Alike (U ++ V) (V ++ U) := fun k => by
  rw [ofP_app, ofP_app]
  by_cases hu : ∃ u ∈ U, u.p = k
  · obtain ⟨u, hu, rfl⟩ := hu
    rw [ofP_none (L := V) (fun v hv e => h u hu v hv e.symm)]; simp
  · rw [ofP_none (L := U) (fun u h2 e => hu ⟨u, h2, e⟩)]; simp

theorem Alike.mem {L M : List Ch} (h : Alike L M) (x : Ch) : x ∈ L ↔ x ∈ M := by
  have e : ∀ K : List Ch, x ∈ K ↔ x ∈ ofP x.p K := fun K => by simp [ofP]
  rw [e L, e M, h]

theorem Alike.perm {L M : List Ch} (h : Alike L M) : L.Perm M := by
  rw [List.perm_iff_count]
  intro x
  have e : ∀ K : List Ch, K.count x = (ofP x.p K).count x := fun K => by
    unfold ofP; rw [List.count_filter]; simp
  rw [e L, e M, h]

theorem Alike.length {L M : List Ch} (h : Alike L M) : L.length = M.length := h.perm.length_eq

theorem cmpT_le {a b c : List UInt8} (h1 : cmpT a b ≤ 0) (h2 : cmpT b c ≤ 0) : cmpT a c ≤ 0 := (ordT.strict h1 h2).1
theorem cmpT_eq {a b : List UInt8} (h1 : cmpT a b ≤ 0) (h2 : cmpT b a ≤ 0) : a = b := by
  apply (ordT.zero a b).1
  have := ordT.anti a b
  omega
theorem cmpT_refl (a : List UInt8) : cmpT a a = 0 := (ordT.zero a a).2 rfl
theorem cmpT_ne {a b : List UInt8} (h : cmpT a b < 0) : a ≠ b := fun e => by subst e; rw [cmpT_refl] at h; omega
theorem cmpT_not {a b : List UInt8} (h : ¬ cmpT a b < 0) : cmpT b a ≤ 0 := by
  have := ordT.anti a b
  omega

/-- Two that rise and are alike are one. -/
theorem Alike.one {L M : List Ch} (h : Alike L M) (hL : Ris L) (hM : Ris M) : L = M := by
  induction L generalizing M with
  | nil =>
    cases M with
    | nil => rfl
    | cons y M => have := h.length; simp at this
  | cons x L ih =>
    cases M with
    | nil => have := h.length; simp at this
    | cons y M =>
      have hx : x ∈ y :: M := (h.mem x).1 (by simp)
      have hy : y ∈ x :: L := (h.mem y).2 (by simp)
      have h1 : cmpT y.p x.p ≤ 0 := by
        rcases List.mem_cons.1 hx with e | hx
        · rw [e, cmpT_refl]; omega
        · exact (List.pairwise_cons.1 hM).1 x hx
      have h2 : cmpT x.p y.p ≤ 0 := by
        rcases List.mem_cons.1 hy with e | hy
        · rw [e, cmpT_refl]; omega
        · exact (List.pairwise_cons.1 hL).1 y hy
      have e : x.p = y.p := cmpT_eq h2 h1
      have h3 := h x.p
      have e1 : ofP x.p (x :: L) = x :: ofP x.p L := by simp [ofP]
      have e2 : ofP x.p (y :: M) = y :: ofP x.p M := by simp [ofP, e]
      rw [e1, e2] at h3
      obtain ⟨rfl, _⟩ := List.cons.inj h3
      congr 1
      refine ih (fun k => ?_) (List.pairwise_cons.1 hL).2 (List.pairwise_cons.1 hM).2
      have h4 := h k
      by_cases hk : x.p = k
      · subst hk; rw [e1, e2] at h4; exact (List.cons.inj h4).2
      · simpa [ofP, hk] using h4

/-- A row's part, as a list. -/
def seg (f : Nat → Ch) (a b : Nat) : List Ch := (List.range' a (b - a)).map f

theorem seg_length (f : Nat → Ch) (a b : Nat) : (seg f a b).length = b - a := by simp [seg]
theorem seg_get (f : Nat → Ch) (a b i : Nat) (h : i < (seg f a b).length) : (seg f a b)[i] = f (a + i) := by simp [seg]
theorem seg_void (f : Nat → Ch) {a b : Nat} (h : b ≤ a) : seg f a b = [] := by
  unfold seg; rw [show b - a = 0 by omega]; rfl

theorem seg_app (f : Nat → Ch) {a m b : Nat} (h1 : a ≤ m) (h2 : m ≤ b) : seg f a b = seg f a m ++ seg f m b := by
  unfold seg
  rw [← List.map_append]
  congr 1
  rw [show b - a = (m - a) + (b - m) by omega, ← List.range'_append]
  congr 2
  omega

theorem seg_same {f g : Nat → Ch} {a b : Nat} (h : ∀ k, a ≤ k → k < b → f k = g k) : seg f a b = seg g a b := by
  unfold seg
  apply List.map_congr_left
  intro k hk
  rw [List.mem_range'_1] at hk
  exact h k hk.1 (by omega)

theorem seg_one (f : Nat → Ch) (a : Nat) : seg f a (a + 1) = [f a] := by
  unfold seg; rw [show a + 1 - a = 1 by omega]; rfl

theorem seg_shift {f g : Nat → Ch} {a b c : Nat} (h : ∀ k, k < b - a → f (a + k) = g (c + k)) : seg f a b = seg g c (c + (b - a)) := by
  apply List.ext_getElem
  · rw [seg_length, seg_length]; omega
  · intro i h1 h2
    rw [seg_get, seg_get]
    rw [seg_length] at h1
    exact h i h1

theorem mem_seg {f : Nat → Ch} {a b : Nat} {x : Ch} : x ∈ seg f a b ↔ ∃ k, a ≤ k ∧ k < b ∧ f k = x := by
  unfold seg
  rw [List.mem_map]
  constructor
  · rintro ⟨k, hk, rfl⟩
    rw [List.mem_range'_1] at hk
    exact ⟨k, hk.1, by omega, rfl⟩
  · rintro ⟨k, h1, h2, rfl⟩
    exact ⟨k, by rw [List.mem_range'_1]; omega, rfl⟩

/-- A row's part rises. -/
def RisF (f : Nat → Ch) (a b : Nat) : Prop := ∀ p q, a ≤ p → p < q → q < b → cmpT (f p).p (f q).p ≤ 0

theorem RisF.ris {f : Nat → Ch} {a b : Nat} (h : RisF f a b) : Ris (seg f a b) := by
  unfold Ris
  rw [List.pairwise_iff_getElem]
  intro i j hi hj hij
  rw [seg_get, seg_get]
  rw [seg_length] at hi hj
  exact h _ _ (by omega) (by omega) (by omega)

/-- Two rows are alike from a to b, and the same elsewhere. -/
structure AlikeF (f g : Nat → Ch) (a b : Nat) : Prop where
  alike : Alike (seg f a b) (seg g a b)
  same : ∀ k, k < a ∨ b ≤ k → g k = f k

theorem AlikeF.refl (f : Nat → Ch) (a b : Nat) : AlikeF f f a b := ⟨Alike.refl _, fun _ _ => rfl⟩
theorem AlikeF.trans {f g h : Nat → Ch} {a b : Nat} (h1 : AlikeF f g a b) (h2 : AlikeF g h a b) : AlikeF f h a b :=
  ⟨h1.alike.trans h2.alike, fun k hk => (h2.same k hk).trans (h1.same k hk)⟩

theorem AlikeF.wide {f g : Nat → Ch} {a b c d : Nat} (h : AlikeF f g c d) (h1 : a ≤ c) (h2 : c ≤ d) (h3 : d ≤ b) : AlikeF f g a b := by
  refine ⟨?_, fun k hk => h.same k (by omega)⟩
  rw [seg_app f h1 (by omega : c ≤ b), seg_app g h1 (by omega : c ≤ b), seg_app f h2 h3, seg_app g h2 h3]
  have e1 : seg g a c = seg f a c := seg_same fun k _ hk => h.same k (by omega)
  have e2 : seg g d b = seg f d b := seg_same fun k hk _ => h.same k (by omega)
  rw [e1, e2]
  exact (Alike.refl _).app (h.alike.app (Alike.refl _))

/-- What is in the part stays in it. -/
theorem AlikeF.find {f g : Nat → Ch} {a b : Nat} (h : AlikeF f g a b) {k : Nat} (h1 : a ≤ k) (h2 : k < b) : ∃ j, a ≤ j ∧ j < b ∧ f j = g k :=
  mem_seg.1 ((h.alike.mem (g k)).2 (mem_seg.2 ⟨k, h1, h2, rfl⟩))

/-- Two places changed. -/
def swp (f : Nat → Ch) (i j : Nat) : Nat → Ch := fun k => if k = i then f j else if k = j then f i else f k

theorem swp_alike (f : Nat → Ch) (j : Nat) (h : (f j).p ≠ (f (j + 1)).p) : AlikeF f (swp f j (j + 1)) j (j + 2) := by
  refine ⟨?_, fun k hk => ?_⟩
  · have e : ∀ g : Nat → Ch, seg g j (j + 2) = [g j] ++ [g (j + 1)] := fun g => by
      rw [seg_app g (by omega : j ≤ j + 1) (by omega), seg_one, show j + 2 = j + 1 + 1 from rfl, seg_one]
    rw [e, e]
    have e1 : swp f j (j + 1) j = f (j + 1) := by simp [swp]
    have e2 : swp f j (j + 1) (j + 1) = f j := by simp [swp]
    rw [e1, e2]
    exact Alike.swap (by simpa using h)
  · simp only [swp]
    rw [if_neg (by omega), if_neg (by omega)]

theorem swp_comm (f : Nat → Ch) (i j : Nat) : swp f i j = swp f j i := by
  funext k
  simp only [swp]
  by_cases h1 : k = i <;> by_cases h2 : k = j <;> simp_all

end Go.Proofs.Ytddkaagdkmmknab

/-
  What stays and what turns in memory, and bytes in memory: small lemmas of our own, over any program.
-/
namespace Go.Proofs.Ytddkaagdkmmknab
open Go.RowKit

/-- Every block that was there, outside the list S, is as it was. -/
structure Kept (S : List Nat) (w w' : World) : Prop where
  os : w'.os = w.os
  tape : w'.tape = w.tape
  output : w'.output = w.output
  size : w.heap.size ≤ w'.heap.size
  block : ∀ k, k < w.heap.size → k ∉ S → w'.heap[k]? = w.heap[k]?

theorem Kept.refl (S : List Nat) (w : World) : Kept S w w := ⟨rfl, rfl, rfl, Nat.le_refl _, fun _ _ _ => rfl⟩

/-- Two steps: what the second one turns is in the list, or new. -/
theorem Kept.trans {S T : List Nat} {a b c : World} (h : Kept S a b) (k : Kept T b c) (hT : ∀ i ∈ T, i ∈ S ∨ a.heap.size ≤ i) : Kept S a c :=
  ⟨k.os.trans h.os, k.tape.trans h.tape, k.output.trans h.output, Nat.le_trans h.size k.size, fun i hi hS => by
    rw [k.block i (Nat.lt_of_lt_of_le hi h.size) (fun hm => by rcases hT i hm with h1 | h1; exact hS h1; omega), h.block i hi hS]⟩

theorem Kept.mono {S T : List Nat} {a b : World} (h : Kept S a b) (hT : ∀ i ∈ S, i ∈ T ∨ a.heap.size ≤ i) : Kept T a b :=
  (Kept.refl T a).trans h hT

theorem Kept.drew {S : List Nat} {a w : World} (h : Kept S a w) : Kept S a w.drew := ⟨h.os, h.tape, h.output, h.size, h.block⟩

theorem Kept.alloc {S : List Nat} {a w : World} (h : Kept S a w) (o : Obj) : Kept S a (w.alloc o) :=
  h.trans (T := []) ⟨rfl, rfl, rfl, by simp, fun k hk _ => Below.heap_alloc _ _ _ hk⟩ (by simp)

theorem Kept.setCell {S : List Nat} {a w : World} (h : Kept S a w) {p : Addr} (hp : p.block ∈ S ∨ a.heap.size ≤ p.block) (u : Value) : Kept S a (w.setCell p u) :=
  h.trans (T := [p.block]) ⟨rfl, rfl, rfl, by simp [World.setCell], fun k _ hk => Below.heap_setCell _ _ _ _ (by simpa using hk)⟩ (by simpa using hp)

theorem Kept.grown {S : List Nat} {a w w' : World} {row : Option Nat} (h : Kept S a w) (hg : w.grownBy w' row) (hr : ∀ k, row = some k → k ∈ S ∨ a.heap.size ≤ k) : Kept S a w' :=
  ⟨hg.os.trans h.os, hg.tape.trans h.tape, hg.output.trans h.output, Nat.le_trans h.size hg.size, fun i hi hS => by
    rw [hg.block i (Nat.lt_of_lt_of_le hi h.size) (fun e => by rcases hr i e.symm with h1 | h1; exact hS h1; omega), h.block i hi hS]⟩

theorem Kept.below {S : List Nat} {a w : World} (h : Kept S a w) {B : Nat} (hB : B ≤ a.heap.size) (hS : ∀ i ∈ S, B ≤ i) : Below B a w :=
  ⟨h.os, h.tape, h.output, h.size, fun k hk => h.block k (by omega) (fun hm => by have := hS k hm; omega)⟩

theorem Kept.of_below {S : List Nat} {a w : World} (h : Below a.heap.size a w) : Kept S a w :=
  ⟨h.os, h.tape, h.output, h.size, fun k hk _ => h.block k hk⟩

theorem Kept.cell {S : List Nat} {a w : World} (h : Kept S a w) {p : Addr} {v : Value} (hc : a.cell? p = some v) (hS : p.block ∉ S) : w.cell? p = some v := by
  have hb : p.block < a.heap.size := by
    unfold World.cell? at hc
    by_cases hlt : p.block < a.heap.size
    · exact hlt
    · rw [Array.getElem?_eq_none (by omega)] at hc; simp at hc
  rw [← hc]; exact World.cell?_of_block (w := a) (h.block _ hb hS)

theorem Kept.at {S : List Nat} {a w : World} (h : Kept S a w) {k : Nat} {o : Obj} (hc : a.heap[k]? = some o) (hS : k ∉ S) : w.heap[k]? = some o := by
  have hb : k < a.heap.size := by
    by_cases hlt : k < a.heap.size
    · exact hlt
    · rw [Array.getElem?_eq_none (by omega)] at hc; simp at hc
  rw [← hc]; exact h.block _ hb hS

theorem lt_of_at {w : World} {k : Nat} {o : Obj} (hc : w.heap[k]? = some o) : k < w.heap.size := by
  by_cases hlt : k < w.heap.size
  · exact hlt
  · rw [Array.getElem?_eq_none (by omega)] at hc; simp at hc

/-- A row that is owned stays owned, if its block is not among those that may turn. -/
theorem Kept.ownsRow {S : List Nat} {a w : World} (h : Kept S a w) {base : Nat} {e : TypeId} {size : Nat} {v : Value} {n : Nat} {xs : List Value}
    (ho : a.ownsRow base e size v n xs) (hS : ∀ k, v.ownBlock = some k → k ∉ S) : w.ownsRow base e size v n xs := by
  obtain ⟨h1, h2⟩ := ho
  refine ⟨h1, ?_⟩
  rcases h2 with h2 | ⟨g, cap, cur, hv, hg, hh, r⟩
  · exact .inl h2
  · exact .inr ⟨g, cap, cur, hv, hg, h.at hh (hS g (by rw [hv]; rfl)), r⟩

/-- The cells of a slice of bytes are the numbers l. -/
def Sl (w : World) (ao : Option Addr) (n c : Nat) (l : List Int) : Prop :=
  l.length = n ∧ n ≤ c ∧ c ≤ maxLen ∧ (ao = none → c = 0) ∧ ∀ i, i < n → ∃ b o, ao = some ⟨b, o, none⟩ ∧ w.cell? ⟨b, o + i, none⟩ = some (.int .u8 (l.getD i 0))

/-- The blocks of a slice. -/
def blk : Option Addr → List Nat
  | some a => [a.block]
  | none => []

theorem Sl.nil (w : World) : Sl w none 0 0 [] := ⟨rfl, Nat.le_refl _, Nat.zero_le _, fun _ => rfl, fun i hi => by omega⟩

theorem Sl.kept {S : List Nat} {a w : World} (h : Kept S a w) {ao : Option Addr} {n c : Nat} {l : List Int} (hs : Sl a ao n c l) (hS : ∀ k ∈ blk ao, k ∉ S) : Sl w ao n c l := by
  obtain ⟨h1, h2, h3, h4, h5⟩ := hs
  refine ⟨h1, h2, h3, h4, fun i hi => ?_⟩
  obtain ⟨b, o, e, hc⟩ := h5 i hi
  exact ⟨b, o, e, h.cell hc (hS b (by rw [e]; simp [blk]))⟩

/-- Not empty: it has an address, and its cells are there. -/
theorem Sl.some {w : World} {ao : Option Addr} {n c : Nat} {l : List Int} (hs : Sl w ao n c l) (hn : 0 < n) :
    ∃ b o, ao = some ⟨b, o, none⟩ ∧ ∀ i, i < n → w.cell? ⟨b, o + i, none⟩ = some (.int .u8 (l.getD i 0)) := by
  obtain ⟨h1, h2, h3, h4, h5⟩ := hs
  obtain ⟨b, o, e, _⟩ := h5 0 hn
  refine ⟨b, o, e, fun i hi => ?_⟩
  obtain ⟨b', o', e', hc⟩ := h5 i hi
  rw [e] at e'; cases e'; exact hc

/-- What is owned is such a slice. -/
theorem Sl.of_owns {w : World} {base e : Nat} {v : Value} {l : List Int} (ho : w.ownsRow base e 1 v l.length (l.map (Value.int .u8))) :
    ∃ ao c, v = .slice ao l.length c ∧ Sl w ao l.length c l ∧ (∀ k ∈ blk ao, base ≤ k ∧ k < w.heap.size ∧ v.ownBlock = Option.some k) := by
  obtain ⟨h1, h2⟩ := ho
  rcases h2 with ⟨hv, hn⟩ | ⟨g, cap, cur, hv, hg, hh, h3, h4, h5, h6⟩
  · refine ⟨none, 0, by rw [hv, hn], ?_, by simp [blk]⟩
    have : l = [] := by simpa using hn
    subst this; exact Sl.nil w
  · refine ⟨Option.some ⟨g, 0, none⟩, cap, hv, ⟨rfl, h3, h4, by simp, fun i hi => ⟨g, 0, rfl, ?_⟩⟩, ?_⟩
    · have hl : l.length * 1 = l.length := by omega
      have : w.cell? ⟨g, i, none⟩ = (l.map (Value.int .u8))[i]? := World.ownsRow.cellAt (base := base) (e := e) (size := 1) (n := l.length) (cap := cap) ⟨h1, .inr ⟨g, cap, cur, rfl, hg, hh, h3, h4, h5, h6⟩⟩ i (by omega)
      rw [Nat.zero_add, this]
      simp [List.getD, List.getElem?_eq_getElem hi]
    · intro k hk
      simp [blk] at hk; subst hk
      exact ⟨hg, lt_of_at hh, by rw [hv]; rfl⟩

/-- The first k bytes, at the same place. -/
theorem Sl.take {w : World} {ao : Option Addr} {n c : Nat} {l : List Int} (hs : Sl w ao n c l) {k : Nat} (hk : k ≤ n) : Sl w ao k c (l.take k) := by
  obtain ⟨h1, h2, h3, h4, h5⟩ := hs
  refine ⟨by simp; omega, by omega, h3, h4, fun i hi => ?_⟩
  obtain ⟨b, o, e, hc⟩ := h5 i (by omega)
  exact ⟨b, o, e, by rw [hc]; simp [List.getD, hi]⟩

/-- What is behind the first k bytes. -/
theorem Sl.drop {w : World} {ao : Option Addr} {n c : Nat} {l : List Int} (hs : Sl w ao n c l) {k : Nat} (hk : k ≤ n) : Sl w (Option.map (fun x => x.add k) ao) (n - k) (c - k) (l.drop k) := by
  obtain ⟨h1, h2, h3, h4, h5⟩ := hs
  refine ⟨by simp; omega, by omega, by omega, fun h => ?_, fun i hi => ?_⟩
  · cases ao with
    | none => have := h4 rfl; omega
    | some a => simp at h
  obtain ⟨b, o, e, hc⟩ := h5 (k + i) (by omega)
  refine ⟨b, o + k, by rw [e]; by_cases hk0 : k = 0 <;> simp [Addr.add, hk0], ?_⟩
  rw [Nat.add_assoc, hc]
  simp [List.getD, List.getElem?_drop]

theorem Sl.drop_all {w : World} {ao : Option Addr} {n c : Nat} {l : List Int} (hs : Sl w ao n c l) {k : Nat} (hk : n ≤ k) : Sl w ao (n - k) 0 (l.drop k) := by
  obtain ⟨h1, h2, h3, h4, h5⟩ := hs
  refine ⟨by simp; omega, by omega, Nat.zero_le _, fun _ => rfl, fun i hi => by omega⟩

theorem blk_add (ao : Option Addr) (k : Nat) : blk (Option.map (fun x => x.add k) ao) = blk ao := by
  cases ao with
  | none => rfl
  | some a => by_cases hk0 : k = 0 <;> simp [blk, Addr.add, hk0]

theorem Sl.kept' {S : List Nat} {a w : World} (h : Kept S a w) {ao : Option Addr} {n c : Nat} {l : List Int} (hs : Sl a ao n c l) (hS : 0 < n → ∀ k ∈ blk ao, k ∉ S) : Sl w ao n c l := by
  obtain ⟨h1, h2, h3, h4, h5⟩ := hs
  refine ⟨h1, h2, h3, h4, fun i hi => ?_⟩
  obtain ⟨b, o, e, hc⟩ := h5 i hi
  exact ⟨b, o, e, h.cell hc (hS (by omega) b (by rw [e]; simp [blk]))⟩

/-- The block of a slice that is not empty is there. -/
theorem Sl.lt {w : World} {ao : Option Addr} {n c : Nat} {l : List Int} (hs : Sl w ao n c l) (hn : 0 < n) : ∀ k ∈ blk ao, k < w.heap.size := by
  obtain ⟨b, o, rfl, hc⟩ := hs.some hn
  intro k hk
  simp [blk] at hk
  subst hk
  have h0 := hc 0 hn
  unfold World.cell? at h0
  by_cases hlt : k < w.heap.size
  · exact hlt
  · rw [show w.heap[(⟨k, o + 0, none⟩ : Addr).block]? = none from Array.getElem?_eq_none (by show w.heap.size ≤ k; omega)] at h0; simp at h0

theorem Sl.of_owns' {w : World} {base e : Nat} {v : Value} {l : List Int} (ho : w.ownsRow base e 1 v l.length (l.map (Value.int .u8))) :
    ∃ ao n c, v = .slice ao n c ∧ Sl w ao n c l ∧ (∀ k ∈ blk ao, base ≤ k ∧ k < w.heap.size ∧ v.ownBlock = Option.some k) := by
  obtain ⟨ao, c, h1, h2, h3⟩ := Sl.of_owns ho
  exact ⟨ao, l.length, c, h1, h2, h3⟩

/-- A cut from a place that is known, as the walk writes it. -/
theorem Sl.cut {w : World} {ao : Option Addr} {n c : Nat} {l : List Int} (hs : Sl w ao n c l) {k m : Nat} (hk : 0 < k) (h : k ≤ m) (hm : m ≤ n) : Sl w (Option.map (fun x => ({ block := x.block, off := x.off + k } : Addr)) ao) (m - k) (c - k) ((l.take m).drop k) := by
  have h1 := (hs.take hm).drop h
  have e : (fun x : Addr => x.add k) = fun x => ({ block := x.block, off := x.off + k } : Addr) := by
    funext x
    have : k ≠ 0 := by omega
    simp [Addr.add, this]
  rw [e] at h1
  exact h1

theorem blk_cut (ao : Option Addr) (k : Nat) : blk (Option.map (fun x => ({ block := x.block, off := x.off + k } : Addr)) ao) = blk ao := by
  cases ao <;> simp [blk]

/-- A row that was just laid. -/
theorem Sl.lit {w : World} {vs : Array Value} {t : TypeId} {mk : Nat × Nat} {n : Nat} {l : List Int} (hn : l.length = n) (h : vs = (l.map (Value.int .u8)).toArray) (hb : n ≤ maxLen) : Sl (w.alloc (.cells vs t mk)) (Option.some ⟨w.heap.size, 0, none⟩) n n l := by
  subst hn; subst h
  refine ⟨rfl, Nat.le_refl _, hb, by simp, fun i hi => ⟨w.heap.size, 0, rfl, ?_⟩⟩
  rw [World.cell?_alloc_mark]
  simp [List.getD, List.getElem?_eq_getElem hi]

end Go.Proofs.Ytddkaagdkmmknab

/-
  A text, out of its bytes.
-/
namespace Go.Proofs.Ytddkaagdkmmknab
open Go.RowKit

/-- A text out of its bytes. -/
def str (l : List UInt8) : ByteArray := ⟨l.toArray⟩

theorem str_data (l : List UInt8) : (str l).data.toList = l := by simp [str]
theorem str_size (l : List UInt8) : (str l).size = l.length := by rw [Lib.size_eq, str_data]
theorem str_of (s : ByteArray) : s = str s.data.toList := by cases s; simp [str]
theorem str_inj {a b : List UInt8} (h : str a = str b) : a = b := by rw [← str_data a, h, str_data]
theorem str_nil : str [] = ByteArray.empty := rfl

end Go.Proofs.Ytddkaagdkmmknab
