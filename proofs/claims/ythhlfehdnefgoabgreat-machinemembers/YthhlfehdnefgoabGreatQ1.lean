/-
  Texts of this claim that are laid as one: App, PaPure, ChPure, Base, PaStr, ChPurS, CoPure, TrPure, TrLaP, GrPure, SePure, SeOnP0, SeLdP0, EpPure, EpMostP, EpChP, EpCuP, MaPure, MaPure2.
-/
import Derived.WalkKit
import Derived.Laws.AppendOwnNone
import Derived.Lib.Bytealg
import Derived.Lib.Strings
import Derived.Lib.Join
import Derived.OneCell
import Derived.Laws.IdiomStrings
import Derived.Lib.CutLaws
/-
  append onto a row that is owned: the new row lies where the old one lay, or in a new block.
-/
namespace Go.Proofs.YthhlfehdnefgoabGreat
open Go.RowKit

variable {P : Program} (w : World)

theorem append_fresh (base : Nat) (t ty e : TypeId) (i : TypeInfo) (z : Value) (size bytes : Nat) (ht : P.underlying t = some (.slice e)) (hi : P.info? e = some i) (hz : i.zero = some z)
    (hsize : i.size = size) (hby : i.bytes = bytes) (hzs : z.cells.size = size) (hsz : 0 < size)
    (v : Value) (n : Nat) (xs : List Value) (hown : w.ownsRow base e size v n xs)
    (a : Addr) (m c : Nat) (news : List Value) (hl : news.length = m * size) (hnews : ∀ j u, news[j]? = some u → w.cell? (a.add j) = some u) (h1 : ∀ u ∈ news, u.oneCell' = true)
    (h63 : n + m ≤ maxLen) (hbytes : (n + m) * bytes ≤ 140737488355328)
    (v' : Value) (w' : World) (hr : (Builtin.append_ #[t, t] ty #[v, .slice (some a) m c]).run P w = .ok v' w') :
    ∀ k, v'.ownBlock = some k → v.ownBlock = some k ∨ w.heap.size ≤ k := by
  intro k hk
  rcases hown.2 with ⟨rfl, rfl⟩ | ⟨g, cap, cur, rfl, hbg, hg, hnc, hcm, hcs, htake⟩
  · have hx : xs = [] := List.eq_nil_of_length_eq_zero (by simpa using hown.1)
    subst hx
    obtain ⟨v2, w2, hr2, ho2, _⟩ := run_append_own (P := P) w w.heap.size t ty e i z size bytes ht hi hz hsize hby hzs hsz _ _ _ (World.ownsRow_nil w w.heap.size e size) a m c news hl hnews h1 h63 hbytes (Nat.le_refl _)
    rw [hr] at hr2
    obtain ⟨rfl, rfl⟩ : v' = v2 ∧ w' = w2 := by simpa using hr2
    exact .inr (ho2.lt k hk).1
  · subst hsize
    by_cases hroom : n + m ≤ cap
    · have hfit : n * i.size + news.length ≤ cur.size := by rw [hl, hcs, ← Nat.add_mul]; exact Nat.mul_le_mul_right _ hroom
      have hr2 := run_append_room (P := P) w t ty e i ht hi g n cap cur hg a m c news hl hnews h1 hroom hfit
      rw [hr2] at hr
      have : v' = .slice (some ⟨g, 0, none⟩) (n + m) cap := by simp at hr; exact hr.1.symm
      subst this
      exact .inl hk
    · have hr2 := run_append_grow (P := P) w t ty e i z ht hi hz ⟨g, 0, none⟩ n cap xs hown.1 (hown.cells (g := g) rfl) a m c news hl hnews (by omega) (by unfold maxLen at h63; omega) (growslice_fits (by omega) (by rw [hby]; exact hbytes))
      rw [hr2] at hr
      have : v'.ownBlock = some w.heap.size := by simp at hr; rw [← hr.1]; rfl
      rw [this] at hk; cases hk
      exact .inr (Nat.le_refl _)

theorem wpList_append2 {ops : Array Oper} {rest : List Oper} {o : Oper} {a : Act} {Q : Exit → Act → World → Prop} (hgd : o.guard = none) (s x : Operand) (t : TypeId)
    (ho : o.op = .call { callee := .builtin .append, args := #[s, x], argTypes := #[t, t] })
    (e : TypeId) (i : TypeInfo) (z : Value) (size bytes : Nat) (ht : P.underlying t = some (.slice e)) (hi : P.info? e = some i) (hz : i.zero = some z)
    (hsize : i.size = size) (hby : i.bytes = bytes) (hzs : z.cells.size = size) (hsz : 0 < size)
    (v : Value) (n : Nat) (xs : List Value) (hs : a.eval s = v) (hown : w.ownsRow 0 e size v n xs)
    (ad : Addr) (m c : Nat) (news : List Value) (hx : a.eval x = .slice (some ad) m c) (hl : news.length = m * size) (hnews : ∀ j u, news[j]? = some u → w.cell? (ad.add j) = some u) (h1 : ∀ u ∈ news, u.oneCell' = true)
    (h63 : n + m ≤ maxLen) (hbytes : (n + m) * bytes ≤ 140737488355328)
    (h : ∀ v' w', w'.ownsRow 0 e size v' (n + m) (xs ++ news) → w.grownBy w' v.ownBlock → (∀ k, v'.ownBlock = some k → v.ownBlock = some k ∨ w.heap.size ≤ k) → wpList P ops Q rest (a.put o.dst v') w') : wpList P ops Q (o :: rest) a w :=
  wpList_plain hgd fun _ hK => by
    obtain ⟨v', w', hr, h2, h3, h4⟩ := run_append_own (P := P) w 0 t o.type e i z size bytes ht hi hz hsize hby hzs hsz v n xs hown ad m c news hl hnews h1 h63 hbytes (Nat.zero_le _)
    have h5 := append_fresh (P := P) w 0 t o.type e i z size bytes ht hi hz hsize hby hzs hsz v n xs hown ad m c news hl hnews h1 h63 hbytes v' w' hr
    unfold Oper.wp execOp
    simp only [ho, resolve, invoke, builtin, Sem.run_bind, Sem.run_pure, Result.andThen_ok, List.map_toArray, List.map_cons, List.map_nil, hs, hx, hr]
    exact hK _ _ (h v' w' h2 h3 h5)

end Go.Proofs.YthhlfehdnefgoabGreat

/-
  Texts by parts: the parts of a text, their order, what is left of them when "", "." and ".." have done their work: plain functions on lists of bytes, of no program.
-/
namespace Go.Proofs.YthhlfehdnefgoabGreat

/-- The parts of a text: what stands between its bytes 47. -/
def partsB : List UInt8 → List (List UInt8)
  | [] => [[]]
  | c :: t => if c = 47 then [] :: partsB t else match partsB t with
    | [] => [[c]]
    | p :: ps => (c :: p) :: ps

theorem partsB_cons (c : UInt8) (t : List UInt8) : partsB (c :: t) = if c = 47 then [] :: partsB t else match partsB t with
    | [] => [[c]]
    | p :: ps => (c :: p) :: ps := rfl

theorem partsB_ne (l : List UInt8) : partsB l ≠ [] := by
  induction l with
  | nil => simp [partsB]
  | cons c t ih =>
    unfold partsB
    split
    · simp
    · split <;> simp

theorem partsB_miss (l : List UInt8) (h : (47 : UInt8) ∉ l) : partsB l = [l] := by
  induction l with
  | nil => rfl
  | cons c t ih =>
    simp only [List.mem_cons, not_or] at h
    unfold partsB
    rw [if_neg (fun e => h.1 e.symm), ih h.2]

theorem partsB_hit (a b : List UInt8) (h : (47 : UInt8) ∉ a) : partsB (a ++ 47 :: b) = a :: partsB b := by
  induction a with
  | nil => simp [partsB]
  | cons c t ih =>
    simp only [List.mem_cons, not_or] at h
    rw [List.cons_append, partsB_cons, if_neg (fun e => h.1 e.symm), ih h.2]

theorem partsB_free (l : List UInt8) : ∀ p ∈ partsB l, (47 : UInt8) ∉ p := by
  induction l with
  | nil => simp [partsB]
  | cons c t ih =>
    unfold partsB
    split
    · intro p hp; simp only [List.mem_cons] at hp; rcases hp with rfl | hp; simp; exact ih p hp
    · rename_i hc
      split
      · intro p hp; simp only [List.mem_singleton] at hp; subst hp; simpa using fun e => hc e.symm
      · rename_i q qs hq
        rw [hq] at ih
        intro p hp
        simp only [List.mem_cons] at hp
        rcases hp with rfl | hp
        · simp only [List.mem_cons, not_or]; exact ⟨fun e => hc e.symm, ih q (by simp)⟩
        · exact ih p (by simp [hp])

/-- The first byte 47, or none. -/
theorem split47 (l : List UInt8) : (47 : UInt8) ∉ l ∨ ∃ a b, l = a ++ 47 :: b ∧ (47 : UInt8) ∉ a := by
  induction l with
  | nil => exact .inl (by simp)
  | cons c t ih =>
    by_cases hc : c = 47
    · exact .inr ⟨[], t, by simp [hc], by simp⟩
    · rcases ih with h | ⟨a, b, rfl, h⟩
      · exact .inl (by simp only [List.mem_cons, not_or]; exact ⟨fun e => hc e.symm, h⟩)
      · exact .inr ⟨c :: a, b, rfl, by simp only [List.mem_cons, not_or]; exact ⟨fun e => hc e.symm, h⟩⟩

theorem partsB_app (a b : List UInt8) : partsB (a ++ 47 :: b) = partsB a ++ partsB b := by
  induction a with
  | nil => simp [partsB]
  | cons c t ih =>
    rw [List.cons_append, partsB_cons, partsB_cons, ih]
    by_cases hc : c = 47
    · simp [hc]
    · simp only [hc, if_false]
      have := partsB_ne t
      cases h : partsB t with
      | nil => exact absurd h this
      | cons p ps => simp

/-- The parts, joined. -/
def joinB (ps : List (List UInt8)) : List UInt8 := Lib.join ps [47]

theorem joinB_one (p : List UInt8) : joinB [p] = p := Lib.join_one p [47]

theorem joinB_cons2 (p q : List UInt8) (r : List (List UInt8)) : joinB (p :: q :: r) = p ++ 47 :: joinB (q :: r) := by
  unfold joinB
  rw [Lib.join_cons, Lib.join_cons]
  simp [Lib.joinTail]

theorem joinB_parts (l : List UInt8) : joinB (partsB l) = l := by
  induction l with
  | nil => rfl
  | cons c t ih =>
    unfold partsB
    have hne := partsB_ne t
    by_cases hc : c = 47
    · rw [if_pos hc]
      cases h : partsB t with
      | nil => exact absurd h hne
      | cons p ps => rw [joinB_cons2, ← h, ih, hc]; rfl
    · rw [if_neg hc]
      cases h : partsB t with
      | nil => exact absurd h hne
      | cons p ps =>
        rw [h] at ih
        cases ps with
        | nil => rw [joinB_one] at ih; rw [joinB_one, ih]
        | cons q qs => rw [joinB_cons2] at ih; rw [joinB_cons2, ← ih]; rfl

theorem parts_join (ps : List (List UInt8)) (hne : ps ≠ []) (h : ∀ p ∈ ps, (47 : UInt8) ∉ p) : partsB (joinB ps) = ps := by
  induction ps with
  | nil => exact absurd rfl hne
  | cons p r ih =>
    cases r with
    | nil => rw [joinB_one, partsB_miss p (h p (by simp))]
    | cons q r =>
      rw [joinB_cons2, partsB_hit _ _ (h p (by simp)), ih (by simp) (fun x hx => h x (by simp [hx]))]

theorem joinB_app (x y : List (List UInt8)) (hx : x ≠ []) (hy : y ≠ []) : joinB (x ++ y) = joinB x ++ 47 :: joinB y := by
  induction x with
  | nil => exact absurd rfl hx
  | cons p r ih =>
    cases r with
    | nil =>
      cases y with
      | nil => exact absurd rfl hy
      | cons q y => rw [joinB_one]; exact joinB_cons2 p q y
    | cons q r =>
      rw [joinB_cons2, List.cons_append, List.cons_append, joinB_cons2, ← List.cons_append, ih (by simp)]; simp

theorem partsB_inj {a b : List UInt8} (h : partsB a = partsB b) : a = b := by rw [← joinB_parts a, h, joinB_parts b]

/-- How many bytes 47, and one more: how many parts. -/
theorem partsB_length (l : List UInt8) : (partsB l).length = l.countP (· = 47) + 1 := by
  induction l with
  | nil => rfl
  | cons c t ih =>
    unfold partsB
    by_cases hc : c = 47
    · rw [if_pos hc, List.length_cons, ih, List.countP_cons]; simp [hc]
    · rw [if_neg hc, List.countP_cons]
      have hne := partsB_ne t
      cases h : partsB t with
      | nil => exact absurd h hne
      | cons p ps => rw [h] at ih; simp only [List.length_cons] at ih ⊢; simp [hc]; omega

theorem partsB_le (l : List UInt8) : (partsB l).length ≤ l.length + 1 := by
  rw [partsB_length]
  have := List.countP_le_length (p := fun c : UInt8 => decide (c = 47)) (l := l)
  omega

/- The order. -/

structure Ord3 {α : Type} (c : α → α → Int) : Prop where
  anti : ∀ a b, c b a = - c a b
  zero : ∀ a b, c a b = 0 ↔ a = b
  trans : ∀ a b d, c a b ≤ 0 → c b d ≤ 0 → c a d ≤ 0

def lexC {α : Type} (c : α → α → Int) : List α → List α → Int
  | [], [] => 0
  | [], _ :: _ => -1
  | _ :: _, [] => 1
  | a :: as, b :: bs => if c a b = 0 then lexC c as bs else c a b

theorem Ord3.lex {α : Type} {c : α → α → Int} (h : Ord3 c) : Ord3 (lexC c) := by
  refine ⟨?_, ?_, ?_⟩
  · intro a
    induction a with
    | nil => intro b; cases b <;> simp [lexC]
    | cons x a ih =>
      intro b
      cases b with
      | nil => simp [lexC]
      | cons y b =>
        simp only [lexC]
        rw [h.anti x y, ih b]
        by_cases hc : c x y = 0
        · simp [hc]
        · rw [if_neg (by omega), if_neg hc]
  · intro a
    induction a with
    | nil => intro b; cases b <;> simp [lexC]
    | cons x a ih =>
      intro b
      cases b with
      | nil => simp [lexC]
      | cons y b =>
        simp only [lexC, List.cons.injEq]
        by_cases hc : c x y = 0
        · rw [if_pos hc, ih b]; simp [(h.zero x y).1 hc]
        · rw [if_neg hc]; constructor
          · intro e; exact absurd e hc
          · rintro ⟨e, _⟩; exact absurd ((h.zero x y).2 e) hc
  · intro a
    induction a with
    | nil => intro b d _ _; cases d <;> simp [lexC]
    | cons x a ih =>
      intro b d hab hbd
      cases b with
      | nil => simp [lexC] at hab
      | cons y b =>
        cases d with
        | nil => simp [lexC] at hbd
        | cons z d =>
          simp only [lexC] at hab hbd ⊢
          have hxy : c x y ≤ 0 := by by_cases e : c x y = 0 <;> simp [e] at hab <;> omega
          have hyz : c y z ≤ 0 := by by_cases e : c y z = 0 <;> simp [e] at hbd <;> omega
          have hxz := h.trans x y z hxy hyz
          by_cases e : c x z = 0
          · rw [if_pos e]
            have := (h.zero x z).1 e
            subst this
            have hyx := h.anti x y
            have e1 : c x y = 0 := by omega
            rw [if_pos e1] at hab
            have := (h.zero x y).1 e1
            subst this
            rw [if_pos e] at hbd
            exact ih b d hab hbd
          · rw [if_neg e]; exact hxz

theorem Ord3.strict {α : Type} {c : α → α → Int} (h : Ord3 c) {x y z : α} (h1 : c x y ≤ 0) (h2 : c y z ≤ 0) : c x z ≤ 0 ∧ (c x z < 0 ∨ (c x y = 0 ∧ c y z = 0)) := by
  have h3 := h.trans x y z h1 h2
  refine ⟨h3, ?_⟩
  by_cases e : c x z = 0
  · right
    have := (h.zero x z).1 e
    subst this
    have := h.anti x y
    omega
  · left; omega

/-- Of two bytes. -/
def cmp8 (a b : UInt8) : Int := if a < b then -1 else if b < a then 1 else 0

theorem ord8 : Ord3 cmp8 := by
  refine ⟨?_, ?_, ?_⟩
  · intro a b
    unfold cmp8
    simp only [UInt8.lt_iff_toNat_lt]
    split <;> split <;> first | rfl | omega | (split <;> first | rfl | omega) | skip
  · intro a b
    unfold cmp8
    rw [← UInt8.toNat_inj]
    simp only [UInt8.lt_iff_toNat_lt]
    split
    · constructor <;> intro h <;> omega
    · split
      · constructor <;> intro h <;> omega
      · constructor <;> intro h <;> omega
  · intro a b d
    unfold cmp8
    simp only [UInt8.lt_iff_toNat_lt]
    intro h1 h2
    split
    · omega
    · split
      · split at h1
        · split at h2
          · omega
          · split at h2 <;> omega
        · split at h1
          · omega
          · split at h2
            · omega
            · split at h2 <;> omega
      · omega

theorem compare_lex : ∀ a b : List UInt8, Lib.compareBytes a b = lexC cmp8 a b
  | [], [] => rfl
  | [], _ :: _ => rfl
  | _ :: _, [] => rfl
  | x :: a, y :: b => by
    unfold Lib.compareBytes lexC
    rw [compare_lex a b]
    unfold cmp8
    split
    · simp
    · split <;> simp

theorem ordB : Ord3 Lib.compareBytes := by
  have : Lib.compareBytes = lexC cmp8 := by funext a b; exact compare_lex a b
  rw [this]; exact ord8.lex

/-- The order of parts. -/
def cmpP : List (List UInt8) → List (List UInt8) → Int := lexC Lib.compareBytes

theorem ordP : Ord3 cmpP := ordB.lex

/-- The order of texts. -/
def cmpT (a b : List UInt8) : Int := cmpP (partsB a) (partsB b)

theorem ordT : Ord3 cmpT :=
  ⟨fun a b => ordP.anti _ _, fun a b => ⟨fun h => partsB_inj ((ordP.zero _ _).1 h), fun h => by rw [h]; exact (ordP.zero _ _).2 rfl⟩, fun a b d => ordP.trans _ _ _⟩

theorem compare_vals (a b : List UInt8) : Lib.compareBytes a b = -1 ∨ Lib.compareBytes a b = 0 ∨ Lib.compareBytes a b = 1 := by
  fun_induction Lib.compareBytes a b <;> simp_all

theorem cmpP_vals (a b : List (List UInt8)) : cmpP a b = -1 ∨ cmpP a b = 0 ∨ cmpP a b = 1 := by
  unfold cmpP
  induction a generalizing b with
  | nil => cases b <;> simp [lexC]
  | cons x a ih =>
    cases b with
    | nil => simp [lexC]
    | cons y b =>
      simp only [lexC]
      split
      · exact ih b
      · exact compare_vals x y

theorem cmpP_prefix (x y : List (List UInt8)) : cmpP x (x ++ y) ≤ 0 := by
  unfold cmpP
  induction x with
  | nil => cases y <;> simp [lexC]
  | cons p x ih =>
    simp only [List.cons_append, lexC]
    rw [if_pos ((ordB.zero p p).2 rfl)]; exact ih

theorem cmpP_between (x y z : List (List UInt8)) (h1 : cmpP x z ≤ 0) (h2 : cmpP z (x ++ y) ≤ 0) : ∃ t, z = x ++ t := by
  unfold cmpP at h1 h2
  induction x generalizing z with
  | nil => exact ⟨z, rfl⟩
  | cons p x ih =>
    cases z with
    | nil => simp [lexC] at h1
    | cons q z =>
      simp only [List.cons_append, lexC] at h1 h2
      have a1 : Lib.compareBytes p q ≤ 0 := by by_cases e : Lib.compareBytes p q = 0 <;> simp [e] at h1 <;> omega
      have a2 : Lib.compareBytes q p ≤ 0 := by by_cases e : Lib.compareBytes q p = 0 <;> simp [e] at h2 <;> omega
      have a3 := ordB.anti p q
      have e1 : Lib.compareBytes p q = 0 := by omega
      have e2 : Lib.compareBytes q p = 0 := by omega
      rw [if_pos e1] at h1
      rw [if_pos e2] at h2
      have := (ordB.zero p q).1 e1
      subst this
      obtain ⟨t, rfl⟩ := ih z h1 h2
      exact ⟨t, rfl⟩

/- What is within. -/

def withinB (d p : List UInt8) : Bool := d.isEmpty || p == d || (d ++ [47]).isPrefixOf p

theorem withinB_iff (d p : List UInt8) : withinB d p = true ↔ d = [] ∨ p = d ∨ ∃ t, p = d ++ 47 :: t := by
  unfold withinB
  simp only [Bool.or_eq_true, List.isEmpty_iff, beq_iff_eq, List.isPrefixOf_iff_prefix, or_assoc]
  constructor
  · rintro (h | h | ⟨t, h⟩)
    · exact .inl h
    · exact .inr (.inl h)
    · exact .inr (.inr ⟨t, by rw [← h]; simp⟩)
  · rintro (h | h | ⟨t, h⟩)
    · exact .inl h
    · exact .inr (.inl h)
    · exact .inr (.inr ⟨t, by rw [h]; simp⟩)

theorem within_first (d p : List UInt8) (hd : d ≠ []) (h : withinB d p = true) : cmpT d p ≤ 0 := by
  rcases (withinB_iff d p).1 h with h | rfl | ⟨t, rfl⟩
  · exact absurd h hd
  · exact Int.le_of_eq ((ordT.zero p p).2 rfl)
  · unfold cmpT; rw [partsB_app]; exact cmpP_prefix _ _

theorem within_between (d p b : List UInt8) (h1 : cmpT d p ≤ 0) (h2 : cmpT p (d ++ 47 :: b) ≤ 0) : withinB d p = true := by
  unfold cmpT at h1 h2
  rw [partsB_app] at h2
  obtain ⟨t, ht⟩ := cmpP_between _ _ _ h1 h2
  refine (withinB_iff d p).2 (.inr ?_)
  by_cases e : t = []
  · subst e; rw [List.append_nil] at ht; exact .inl (partsB_inj ht)
  · refine .inr ⟨joinB t, ?_⟩
    rw [← joinB_parts p, ht, joinB_app _ _ (partsB_ne d) e, joinB_parts]

/- The one form of a path. -/

/-- What is left of the parts, behind those that are there. -/
def resB : List (List UInt8) → List (List UInt8) → Option (List (List UInt8))
  | k, [] => some k
  | k, p :: ps => if p = [] ∨ p = [46] then resB k ps else if p = [46, 46] then (if k = [] then none else resB k.dropLast ps) else resB (k ++ [p]) ps

def letB (point : Bool) (c : UInt8) : Bool := (97 ≤ c && c ≤ 122) || (48 ≤ c && c ≤ 57) || c == 95 || c == 45 || (point && c == 46)

/-- 1 to 24 such bytes. -/
def wordB (point : Bool) (l : List UInt8) : Bool := 0 < l.length && l.length ≤ 24 && l.all (letB point)

/-- What is left makes a path, or none. -/
def finB (k : List (List UInt8)) : Option (List UInt8) :=
  if k = [] ∨ 8 < k.length then none else if k.all (wordB true) = true ∧ (joinB k).length ≤ 64 then some (joinB k) else none

def normB (l : List UInt8) : Option (List UInt8) := (resB [] (partsB l)).bind finB

/-- A part that stays. -/
def Stays (p : List UInt8) : Prop := p ≠ [] ∧ p ≠ [46] ∧ p ≠ [46, 46] ∧ (47 : UInt8) ∉ p

theorem resB_stays (k ps r : List (List UInt8)) (hk : ∀ p ∈ k, Stays p) (hp : ∀ p ∈ ps, (47 : UInt8) ∉ p) (h : resB k ps = some r) : ∀ p ∈ r, Stays p := by
  induction ps generalizing k with
  | nil => simp only [resB, Option.some.injEq] at h; subst h; exact hk
  | cons q ps ih =>
    simp only [resB] at h
    have hps : ∀ p ∈ ps, (47 : UInt8) ∉ p := fun p h => hp p (by simp [h])
    split at h
    · exact ih k hk hps h
    · rename_i h1
      simp only [not_or] at h1
      split at h
      · split at h
        · cases h
        · exact ih _ (fun p h => hk p (List.dropLast_subset k h)) hps h
      · rename_i h2
        refine ih _ ?_ hps h
        intro p hm
        simp only [List.mem_append, List.mem_singleton] at hm
        rcases hm with hm | rfl
        · exact hk p hm
        · exact ⟨h1.1, h1.2, h2, hp p (by simp)⟩

theorem resB_app (k x y : List (List UInt8)) : resB k (x ++ y) = (resB k x).bind fun r => resB r y := by
  induction x generalizing k with
  | nil => simp [resB]
  | cons p x ih =>
    simp only [List.cons_append, resB]
    split
    · exact ih k
    · split
      · split
        · rfl
        · exact ih _
      · exact ih _

theorem resB_same (k ps : List (List UInt8)) (h : ∀ p ∈ ps, Stays p) : resB k ps = some (k ++ ps) := by
  induction ps generalizing k with
  | nil => simp [resB]
  | cons p ps ih =>
    obtain ⟨h1, h2, h3, _⟩ := h p (by simp)
    simp only [resB]
    rw [if_neg (by simp [h1, h2]), if_neg h3, ih _ (fun q hq => h q (by simp [hq]))]
    simp

theorem resB_under (j k ps r : List (List UInt8)) (h : resB k ps = some r) : resB (j ++ k) ps = some (j ++ r) := by
  induction ps generalizing k with
  | nil => simp only [resB, Option.some.injEq] at h ⊢; rw [h]
  | cons p ps ih =>
    simp only [resB] at h ⊢
    split
    · rename_i h1; rw [if_pos h1] at h; exact ih k h
    · rename_i h1
      rw [if_neg h1] at h
      split
      · rename_i h2
        rw [if_pos h2] at h
        split at h
        · cases h
        · rename_i h3
          rw [if_neg (by simp [h3]), List.dropLast_append_of_ne_nil h3]
          exact ih _ h
      · rename_i h2
        rw [if_neg h2] at h
        rw [List.append_assoc]; exact ih _ h

theorem finB_some {k : List (List UInt8)} {p : List UInt8} (h : finB k = some p) : k ≠ [] ∧ k.length ≤ 8 ∧ k.all (wordB true) = true ∧ (joinB k).length ≤ 64 ∧ p = joinB k := by
  unfold finB at h
  split at h
  · cases h
  · rename_i h1
    simp only [not_or] at h1
    split at h
    · rename_i h2; simp only [Option.some.injEq] at h; exact ⟨h1.1, by omega, h2.1, h2.2, h.symm⟩
    · cases h

/-- What a path is made of. -/
theorem normB_some {l p : List UInt8} (h : normB l = some p) : ∃ k, resB [] (partsB l) = some k ∧ finB k = some p ∧ (∀ q ∈ k, Stays q) ∧ partsB p = k := by
  unfold normB at h
  cases hr : resB [] (partsB l) with
  | none => rw [hr] at h; cases h
  | some k =>
    rw [hr] at h
    have hf : finB k = some p := h
    have hs := resB_stays [] _ k (by simp) (partsB_free l) hr
    obtain ⟨h1, h2, h3, h4, rfl⟩ := finB_some hf
    exact ⟨k, rfl, hf, hs, parts_join k h1 (fun q hq => (hs q hq).2.2.2)⟩

theorem normB_again {l p : List UInt8} (h : normB l = some p) : normB p = some p := by
  obtain ⟨k, h1, h2, h3, h4⟩ := normB_some h
  unfold normB
  rw [h4, resB_same _ _ h3]
  simpa using h2

theorem normB_len {l p : List UInt8} (h : normB l = some p) : p.length ≤ 64 := by
  obtain ⟨k, h1, h2, h3, h4⟩ := normB_some h
  obtain ⟨_, _, _, h5, rfl⟩ := finB_some h2
  exact h5

/-- Two paths, one behind the other. -/
theorem norm_join {a b p q : List UInt8} (ha : normB a = some p) (hb : normB b = some q) :
    ∃ j k, finB j = some p ∧ finB k = some q ∧ normB ([47, 46, 47] ++ a ++ [47, 47, 46, 47] ++ b ++ [47]) = finB (j ++ k) ∧ normB (p ++ [47] ++ q) = finB (j ++ k) ∧ normB (a ++ [47, 120, 47, 46, 46, 47] ++ [121, 47, 46, 46]) = some p
      ∧ partsB (p ++ [47] ++ q) = j ++ k ∧ joinB (j ++ k) = p ++ [47] ++ q := by
  obtain ⟨j, j1, j2, j3, j4⟩ := normB_some ha
  obtain ⟨k, k1, k2, k3, k4⟩ := normB_some hb
  obtain ⟨j5, _, _, _, j6⟩ := finB_some j2
  obtain ⟨k5, _, _, _, k6⟩ := finB_some k2
  have hpq : partsB (p ++ [47] ++ q) = j ++ k := by
    rw [List.append_assoc, List.singleton_append, partsB_app, j4, k4]
  refine ⟨j, k, j2, k2, ?_, ?_, ?_, hpq, ?_⟩
  · have e : partsB ([47, 46, 47] ++ a ++ [47, 47, 46, 47] ++ b ++ [47]) = [[], [46]] ++ (partsB a ++ ([[], [46]] ++ (partsB b ++ [[]]))) := by
      have e1 : [47, 46, 47] ++ a ++ [47, 47, 46, 47] ++ b ++ [47] = [] ++ 47 :: ([46] ++ 47 :: (a ++ 47 :: ([] ++ 47 :: ([46] ++ 47 :: (b ++ 47 :: []))))) := by simp
      rw [e1, partsB_app, partsB_app, partsB_app, partsB_app, partsB_app, partsB_app]
      rfl
    unfold normB
    rw [e]
    have h1 : resB [] ([[], [46]] ++ (partsB a ++ ([[], [46]] ++ (partsB b ++ [[]])))) = resB [] (partsB a ++ ([[], [46]] ++ (partsB b ++ [[]]))) := by simp [resB]
    rw [h1, resB_app, j1]
    have h2 : resB j ([[], [46]] ++ (partsB b ++ [[]])) = resB j (partsB b ++ [[]]) := by simp [resB]
    simp only [Option.bind]
    rw [h2, resB_app]
    have h3 := resB_under j [] _ _ k1
    rw [List.append_nil] at h3
    rw [h3]
    simp [resB]
  · unfold normB
    rw [hpq, resB_same _ _ (by intro x hx; simp only [List.mem_append] at hx; rcases hx with h | h; exact j3 x h; exact k3 x h)]
    rfl
  · have e1 : a ++ [47, 120, 47, 46, 46, 47] ++ [121, 47, 46, 46] = a ++ 47 :: ([120] ++ 47 :: ([46, 46] ++ 47 :: ([121] ++ 47 :: [46, 46]))) := by simp
    unfold normB
    rw [e1, partsB_app, partsB_app, partsB_app, partsB_app, resB_app, j1]
    have h1 : resB j (partsB [120] ++ (partsB [46, 46] ++ (partsB [121] ++ partsB [46, 46]))) = some j := by
      have e2 : partsB [120] ++ (partsB [46, 46] ++ (partsB [121] ++ partsB [46, 46])) = [[120], [46, 46], [121], [46, 46]] := rfl
      rw [e2]
      simp [resB]
    simp only [Option.bind]
    rw [h1]
    exact j2
  · rw [joinB_app _ _ j5 k5, j6, k6]; simp

/-- If two paths, one behind the other, are none, it is too long, or too deep. -/
theorem norm_join_not {j k : List (List UInt8)} {p q : List UInt8} (hj : finB j = some p) (hk : finB k = some q) (h : finB (j ++ k) = none) : 8 < (j ++ k).length ∨ 64 < (joinB (j ++ k)).length := by
  obtain ⟨j5, _, j7, _, _⟩ := finB_some hj
  obtain ⟨k5, _, k7, _, _⟩ := finB_some hk
  unfold finB at h
  split at h
  · rename_i h1
    rcases h1 with h1 | h1
    · simp [j5] at h1
    · exact .inl h1
  · split at h
    · cases h
    · rename_i h2
      simp only [List.all_append, j7, k7, Bool.and_self, true_and, Nat.not_le] at h2
      exact .inr h2

end Go.Proofs.YthhlfehdnefgoabGreat

/-
  Changes and their order: lists that rise, lists that have of each path the same changes in the same order; rows as functions of places.
-/
namespace Go.Proofs.YthhlfehdnefgoabGreat

/-- A change. -/
structure Ch where
  p : List UInt8
  g : Bool
  d : Int
deriving DecidableEq

/-- Their paths rise, or stay. -/
def Ris (L : List Ch) : Prop := L.Pairwise fun a b => cmpT a.p b.p ≤ 0

/-- Those of one path. -/
def ofP (k : List UInt8) (L : List Ch) : List Ch := L.filter fun x => decide (x.p = k)

/-- Of each path they have the same, in the same order. -/
def Alike (L M : List Ch) : Prop := ∀ k, ofP k L = ofP k M

theorem Alike.refl (L : List Ch) : Alike L L := fun _ => rfl
theorem Alike.symm {L M : List Ch} (h : Alike L M) : Alike M L := fun k => (h k).symm
theorem Alike.trans {L M K : List Ch} (h : Alike L M) (h2 : Alike M K) : Alike L K := fun k => (h k).trans (h2 k)
theorem ofP_app (k : List UInt8) (L M : List Ch) : ofP k (L ++ M) = ofP k L ++ ofP k M := List.filter_append ..
theorem Alike.app {L L' M M' : List Ch} (h : Alike L L') (h2 : Alike M M') : Alike (L ++ M) (L' ++ M') := fun k => by
  rw [ofP_app, ofP_app, h k, h2 k]

theorem ofP_none {k : List UInt8} {L : List Ch} (h : ∀ x ∈ L, x.p ≠ k) : ofP k L = [] := by
  unfold ofP
  rw [List.filter_eq_nil_iff]
  intro x hx
  simpa using h x hx

theorem Alike.swap {U V : List Ch} (h : ∀ u ∈ U, ∀ v ∈ V, u.p ≠ v.p) : Alike (U ++ V) (V ++ U) := fun k => by
  rw [ofP_app, ofP_app]
  by_cases hu : ∃ u ∈ U, u.p = k
  · obtain ⟨u, hu, rfl⟩ := hu
    rw [ofP_none (L := V) (fun v hv e => h u hu v hv e.symm)]; simp
  · rw [ofP_none (L := U) (fun u h2 e => hu ⟨u, h2, e⟩)]; simp

theorem Alike.mem {L M : List Ch} (h : Alike L M) (x : Ch) : x ∈ L ↔ x ∈ M := by
  have e : ∀ K : List Ch, x ∈ K ↔ x ∈ ofP x.p K := fun K => by simp [ofP]
  rw [e L, e M, h]

theorem Alike.perm {L M : List Ch} (h : Alike L M) : L.Perm M := by
  rw [List.perm_iff_count]
  intro x
  have e : ∀ K : List Ch, K.count x = (ofP x.p K).count x := fun K => by
    unfold ofP; rw [List.count_filter]; simp
  rw [e L, e M, h]

theorem Alike.length {L M : List Ch} (h : Alike L M) : L.length = M.length := h.perm.length_eq

theorem cmpT_le {a b c : List UInt8} (h1 : cmpT a b ≤ 0) (h2 : cmpT b c ≤ 0) : cmpT a c ≤ 0 := (ordT.strict h1 h2).1
theorem cmpT_eq {a b : List UInt8} (h1 : cmpT a b ≤ 0) (h2 : cmpT b a ≤ 0) : a = b := by
  apply (ordT.zero a b).1
  have := ordT.anti a b
  omega
theorem cmpT_refl (a : List UInt8) : cmpT a a = 0 := (ordT.zero a a).2 rfl
theorem cmpT_ne {a b : List UInt8} (h : cmpT a b < 0) : a ≠ b := fun e => by subst e; rw [cmpT_refl] at h; omega
theorem cmpT_not {a b : List UInt8} (h : ¬ cmpT a b < 0) : cmpT b a ≤ 0 := by
  have := ordT.anti a b
  omega

/-- Two that rise and are alike are one. -/
theorem Alike.one {L M : List Ch} (h : Alike L M) (hL : Ris L) (hM : Ris M) : L = M := by
  induction L generalizing M with
  | nil =>
    cases M with
    | nil => rfl
    | cons y M => have := h.length; simp at this
  | cons x L ih =>
    cases M with
    | nil => have := h.length; simp at this
    | cons y M =>
      have hx : x ∈ y :: M := (h.mem x).1 (by simp)
      have hy : y ∈ x :: L := (h.mem y).2 (by simp)
      have h1 : cmpT y.p x.p ≤ 0 := by
        rcases List.mem_cons.1 hx with e | hx
        · rw [e, cmpT_refl]; omega
        · exact (List.pairwise_cons.1 hM).1 x hx
      have h2 : cmpT x.p y.p ≤ 0 := by
        rcases List.mem_cons.1 hy with e | hy
        · rw [e, cmpT_refl]; omega
        · exact (List.pairwise_cons.1 hL).1 y hy
      have e : x.p = y.p := cmpT_eq h2 h1
      have h3 := h x.p
      have e1 : ofP x.p (x :: L) = x :: ofP x.p L := by simp [ofP]
      have e2 : ofP x.p (y :: M) = y :: ofP x.p M := by simp [ofP, e]
      rw [e1, e2] at h3
      obtain ⟨rfl, _⟩ := List.cons.inj h3
      congr 1
      refine ih (fun k => ?_) (List.pairwise_cons.1 hL).2 (List.pairwise_cons.1 hM).2
      have h4 := h k
      by_cases hk : x.p = k
      · subst hk; rw [e1, e2] at h4; exact (List.cons.inj h4).2
      · simpa [ofP, hk] using h4

/-- A row's part, as a list. -/
def seg (f : Nat → Ch) (a b : Nat) : List Ch := (List.range' a (b - a)).map f

theorem seg_length (f : Nat → Ch) (a b : Nat) : (seg f a b).length = b - a := by simp [seg]
theorem seg_get (f : Nat → Ch) (a b i : Nat) (h : i < (seg f a b).length) : (seg f a b)[i] = f (a + i) := by simp [seg]
theorem seg_void (f : Nat → Ch) {a b : Nat} (h : b ≤ a) : seg f a b = [] := by
  unfold seg; rw [show b - a = 0 by omega]; rfl

theorem seg_app (f : Nat → Ch) {a m b : Nat} (h1 : a ≤ m) (h2 : m ≤ b) : seg f a b = seg f a m ++ seg f m b := by
  unfold seg
  rw [← List.map_append]
  congr 1
  rw [show b - a = (m - a) + (b - m) by omega, ← List.range'_append]
  congr 2
  omega

theorem seg_same {f g : Nat → Ch} {a b : Nat} (h : ∀ k, a ≤ k → k < b → f k = g k) : seg f a b = seg g a b := by
  unfold seg
  apply List.map_congr_left
  intro k hk
  rw [List.mem_range'_1] at hk
  exact h k hk.1 (by omega)

theorem seg_one (f : Nat → Ch) (a : Nat) : seg f a (a + 1) = [f a] := by
  unfold seg; rw [show a + 1 - a = 1 by omega]; rfl

theorem seg_shift {f g : Nat → Ch} {a b c : Nat} (h : ∀ k, k < b - a → f (a + k) = g (c + k)) : seg f a b = seg g c (c + (b - a)) := by
  apply List.ext_getElem
  · rw [seg_length, seg_length]; omega
  · intro i h1 h2
    rw [seg_get, seg_get]
    rw [seg_length] at h1
    exact h i h1

theorem mem_seg {f : Nat → Ch} {a b : Nat} {x : Ch} : x ∈ seg f a b ↔ ∃ k, a ≤ k ∧ k < b ∧ f k = x := by
  unfold seg
  rw [List.mem_map]
  constructor
  · rintro ⟨k, hk, rfl⟩
    rw [List.mem_range'_1] at hk
    exact ⟨k, hk.1, by omega, rfl⟩
  · rintro ⟨k, h1, h2, rfl⟩
    exact ⟨k, by rw [List.mem_range'_1]; omega, rfl⟩

/-- A row's part rises. -/
def RisF (f : Nat → Ch) (a b : Nat) : Prop := ∀ p q, a ≤ p → p < q → q < b → cmpT (f p).p (f q).p ≤ 0

theorem RisF.ris {f : Nat → Ch} {a b : Nat} (h : RisF f a b) : Ris (seg f a b) := by
  unfold Ris
  rw [List.pairwise_iff_getElem]
  intro i j hi hj hij
  rw [seg_get, seg_get]
  rw [seg_length] at hi hj
  exact h _ _ (by omega) (by omega) (by omega)

/-- Two rows are alike from a to b, and the same elsewhere. -/
structure AlikeF (f g : Nat → Ch) (a b : Nat) : Prop where
  alike : Alike (seg f a b) (seg g a b)
  same : ∀ k, k < a ∨ b ≤ k → g k = f k

theorem AlikeF.refl (f : Nat → Ch) (a b : Nat) : AlikeF f f a b := ⟨Alike.refl _, fun _ _ => rfl⟩
theorem AlikeF.trans {f g h : Nat → Ch} {a b : Nat} (h1 : AlikeF f g a b) (h2 : AlikeF g h a b) : AlikeF f h a b :=
  ⟨h1.alike.trans h2.alike, fun k hk => (h2.same k hk).trans (h1.same k hk)⟩

theorem AlikeF.wide {f g : Nat → Ch} {a b c d : Nat} (h : AlikeF f g c d) (h1 : a ≤ c) (h2 : c ≤ d) (h3 : d ≤ b) : AlikeF f g a b := by
  refine ⟨?_, fun k hk => h.same k (by omega)⟩
  rw [seg_app f h1 (by omega : c ≤ b), seg_app g h1 (by omega : c ≤ b), seg_app f h2 h3, seg_app g h2 h3]
  have e1 : seg g a c = seg f a c := seg_same fun k _ hk => h.same k (by omega)
  have e2 : seg g d b = seg f d b := seg_same fun k hk _ => h.same k (by omega)
  rw [e1, e2]
  exact (Alike.refl _).app (h.alike.app (Alike.refl _))

/-- What is in the part stays in it. -/
theorem AlikeF.find {f g : Nat → Ch} {a b : Nat} (h : AlikeF f g a b) {k : Nat} (h1 : a ≤ k) (h2 : k < b) : ∃ j, a ≤ j ∧ j < b ∧ f j = g k :=
  mem_seg.1 ((h.alike.mem (g k)).2 (mem_seg.2 ⟨k, h1, h2, rfl⟩))

/-- Two places changed. -/
def swp (f : Nat → Ch) (i j : Nat) : Nat → Ch := fun k => if k = i then f j else if k = j then f i else f k

theorem swp_alike (f : Nat → Ch) (j : Nat) (h : (f j).p ≠ (f (j + 1)).p) : AlikeF f (swp f j (j + 1)) j (j + 2) := by
  refine ⟨?_, fun k hk => ?_⟩
  · have e : ∀ g : Nat → Ch, seg g j (j + 2) = [g j] ++ [g (j + 1)] := fun g => by
      rw [seg_app g (by omega : j ≤ j + 1) (by omega), seg_one, show j + 2 = j + 1 + 1 from rfl, seg_one]
    rw [e, e]
    have e1 : swp f j (j + 1) j = f (j + 1) := by simp [swp]
    have e2 : swp f j (j + 1) (j + 1) = f j := by simp [swp]
    rw [e1, e2]
    exact Alike.swap (by simpa using h)
  · simp only [swp]
    rw [if_neg (by omega), if_neg (by omega)]

theorem swp_comm (f : Nat → Ch) (i j : Nat) : swp f i j = swp f j i := by
  funext k
  simp only [swp]
  by_cases h1 : k = i <;> by_cases h2 : k = j <;> simp_all

end Go.Proofs.YthhlfehdnefgoabGreat

/-
  What stays and what turns in memory, and bytes in memory: small lemmas of our own, over any program.
-/
namespace Go.Proofs.YthhlfehdnefgoabGreat
open Go.RowKit

/-- Every block that was there, outside the list S, is as it was. -/
structure Kept (S : List Nat) (w w' : World) : Prop where
  os : w'.os = w.os
  tape : w'.tape = w.tape
  output : w'.output = w.output
  size : w.heap.size ≤ w'.heap.size
  block : ∀ k, k < w.heap.size → k ∉ S → w'.heap[k]? = w.heap[k]?

theorem Kept.refl (S : List Nat) (w : World) : Kept S w w := ⟨rfl, rfl, rfl, Nat.le_refl _, fun _ _ _ => rfl⟩

/-- Two steps: what the second one turns is in the list, or new. -/
theorem Kept.trans {S T : List Nat} {a b c : World} (h : Kept S a b) (k : Kept T b c) (hT : ∀ i ∈ T, i ∈ S ∨ a.heap.size ≤ i) : Kept S a c :=
  ⟨k.os.trans h.os, k.tape.trans h.tape, k.output.trans h.output, Nat.le_trans h.size k.size, fun i hi hS => by
    rw [k.block i (Nat.lt_of_lt_of_le hi h.size) (fun hm => by rcases hT i hm with h1 | h1; exact hS h1; omega), h.block i hi hS]⟩

theorem Kept.mono {S T : List Nat} {a b : World} (h : Kept S a b) (hT : ∀ i ∈ S, i ∈ T ∨ a.heap.size ≤ i) : Kept T a b :=
  (Kept.refl T a).trans h hT

theorem Kept.drew {S : List Nat} {a w : World} (h : Kept S a w) : Kept S a w.drew := ⟨h.os, h.tape, h.output, h.size, h.block⟩

theorem Kept.alloc {S : List Nat} {a w : World} (h : Kept S a w) (o : Obj) : Kept S a (w.alloc o) :=
  h.trans (T := []) ⟨rfl, rfl, rfl, by simp, fun k hk _ => Below.heap_alloc _ _ _ hk⟩ (by simp)

theorem Kept.setCell {S : List Nat} {a w : World} (h : Kept S a w) {p : Addr} (hp : p.block ∈ S ∨ a.heap.size ≤ p.block) (u : Value) : Kept S a (w.setCell p u) :=
  h.trans (T := [p.block]) ⟨rfl, rfl, rfl, by simp [World.setCell], fun k _ hk => Below.heap_setCell _ _ _ _ (by simpa using hk)⟩ (by simpa using hp)

theorem Kept.grown {S : List Nat} {a w w' : World} {row : Option Nat} (h : Kept S a w) (hg : w.grownBy w' row) (hr : ∀ k, row = some k → k ∈ S ∨ a.heap.size ≤ k) : Kept S a w' :=
  ⟨hg.os.trans h.os, hg.tape.trans h.tape, hg.output.trans h.output, Nat.le_trans h.size hg.size, fun i hi hS => by
    rw [hg.block i (Nat.lt_of_lt_of_le hi h.size) (fun e => by rcases hr i e.symm with h1 | h1; exact hS h1; omega), h.block i hi hS]⟩

theorem Kept.below {S : List Nat} {a w : World} (h : Kept S a w) {B : Nat} (hB : B ≤ a.heap.size) (hS : ∀ i ∈ S, B ≤ i) : Below B a w :=
  ⟨h.os, h.tape, h.output, h.size, fun k hk => h.block k (by omega) (fun hm => by have := hS k hm; omega)⟩

theorem Kept.of_below {S : List Nat} {a w : World} (h : Below a.heap.size a w) : Kept S a w :=
  ⟨h.os, h.tape, h.output, h.size, fun k hk _ => h.block k hk⟩

theorem Kept.cell {S : List Nat} {a w : World} (h : Kept S a w) {p : Addr} {v : Value} (hc : a.cell? p = some v) (hS : p.block ∉ S) : w.cell? p = some v := by
  have hb : p.block < a.heap.size := by
    unfold World.cell? at hc
    by_cases hlt : p.block < a.heap.size
    · exact hlt
    · rw [Array.getElem?_eq_none (by omega)] at hc; simp at hc
  rw [← hc]; exact World.cell?_of_block (w := a) (h.block _ hb hS)

theorem Kept.at {S : List Nat} {a w : World} (h : Kept S a w) {k : Nat} {o : Obj} (hc : a.heap[k]? = some o) (hS : k ∉ S) : w.heap[k]? = some o := by
  have hb : k < a.heap.size := by
    by_cases hlt : k < a.heap.size
    · exact hlt
    · rw [Array.getElem?_eq_none (by omega)] at hc; simp at hc
  rw [← hc]; exact h.block _ hb hS

theorem lt_of_at {w : World} {k : Nat} {o : Obj} (hc : w.heap[k]? = some o) : k < w.heap.size := by
  by_cases hlt : k < w.heap.size
  · exact hlt
  · rw [Array.getElem?_eq_none (by omega)] at hc; simp at hc

/-- A row that is owned stays owned, if its block is not among those that may turn. -/
theorem Kept.ownsRow {S : List Nat} {a w : World} (h : Kept S a w) {base : Nat} {e : TypeId} {size : Nat} {v : Value} {n : Nat} {xs : List Value}
    (ho : a.ownsRow base e size v n xs) (hS : ∀ k, v.ownBlock = some k → k ∉ S) : w.ownsRow base e size v n xs := by
  obtain ⟨h1, h2⟩ := ho
  refine ⟨h1, ?_⟩
  rcases h2 with h2 | ⟨g, cap, cur, hv, hg, hh, r⟩
  · exact .inl h2
  · exact .inr ⟨g, cap, cur, hv, hg, h.at hh (hS g (by rw [hv]; rfl)), r⟩

/-- The cells of a slice of bytes are the numbers l. -/
def Sl (w : World) (ao : Option Addr) (n c : Nat) (l : List Int) : Prop :=
  l.length = n ∧ n ≤ c ∧ c ≤ maxLen ∧ (ao = none → c = 0) ∧ ∀ i, i < n → ∃ b o, ao = some ⟨b, o, none⟩ ∧ w.cell? ⟨b, o + i, none⟩ = some (.int .u8 (l.getD i 0))

/-- The blocks of a slice. -/
def blk : Option Addr → List Nat
  | some a => [a.block]
  | none => []

theorem Sl.nil (w : World) : Sl w none 0 0 [] := ⟨rfl, Nat.le_refl _, Nat.zero_le _, fun _ => rfl, fun i hi => by omega⟩

theorem Sl.kept {S : List Nat} {a w : World} (h : Kept S a w) {ao : Option Addr} {n c : Nat} {l : List Int} (hs : Sl a ao n c l) (hS : ∀ k ∈ blk ao, k ∉ S) : Sl w ao n c l := by
  obtain ⟨h1, h2, h3, h4, h5⟩ := hs
  refine ⟨h1, h2, h3, h4, fun i hi => ?_⟩
  obtain ⟨b, o, e, hc⟩ := h5 i hi
  exact ⟨b, o, e, h.cell hc (hS b (by rw [e]; simp [blk]))⟩

/-- Not empty: it has an address, and its cells are there. -/
theorem Sl.some {w : World} {ao : Option Addr} {n c : Nat} {l : List Int} (hs : Sl w ao n c l) (hn : 0 < n) :
    ∃ b o, ao = some ⟨b, o, none⟩ ∧ ∀ i, i < n → w.cell? ⟨b, o + i, none⟩ = some (.int .u8 (l.getD i 0)) := by
  obtain ⟨h1, h2, h3, h4, h5⟩ := hs
  obtain ⟨b, o, e, _⟩ := h5 0 hn
  refine ⟨b, o, e, fun i hi => ?_⟩
  obtain ⟨b', o', e', hc⟩ := h5 i hi
  rw [e] at e'; cases e'; exact hc

/-- What is owned is such a slice. -/
theorem Sl.of_owns {w : World} {base e : Nat} {v : Value} {l : List Int} (ho : w.ownsRow base e 1 v l.length (l.map (Value.int .u8))) :
    ∃ ao c, v = .slice ao l.length c ∧ Sl w ao l.length c l ∧ (∀ k ∈ blk ao, base ≤ k ∧ k < w.heap.size ∧ v.ownBlock = Option.some k) := by
  obtain ⟨h1, h2⟩ := ho
  rcases h2 with ⟨hv, hn⟩ | ⟨g, cap, cur, hv, hg, hh, h3, h4, h5, h6⟩
  · refine ⟨none, 0, by rw [hv, hn], ?_, by simp [blk]⟩
    have : l = [] := by simpa using hn
    subst this; exact Sl.nil w
  · refine ⟨Option.some ⟨g, 0, none⟩, cap, hv, ⟨rfl, h3, h4, by simp, fun i hi => ⟨g, 0, rfl, ?_⟩⟩, ?_⟩
    · have hl : l.length * 1 = l.length := by omega
      have : w.cell? ⟨g, i, none⟩ = (l.map (Value.int .u8))[i]? := World.ownsRow.cellAt (base := base) (e := e) (size := 1) (n := l.length) (cap := cap) ⟨h1, .inr ⟨g, cap, cur, rfl, hg, hh, h3, h4, h5, h6⟩⟩ i (by omega)
      rw [Nat.zero_add, this]
      simp [List.getD, List.getElem?_eq_getElem hi]
    · intro k hk
      simp [blk] at hk; subst hk
      exact ⟨hg, lt_of_at hh, by rw [hv]; rfl⟩

/-- The first k bytes, at the same place. -/
theorem Sl.take {w : World} {ao : Option Addr} {n c : Nat} {l : List Int} (hs : Sl w ao n c l) {k : Nat} (hk : k ≤ n) : Sl w ao k c (l.take k) := by
  obtain ⟨h1, h2, h3, h4, h5⟩ := hs
  refine ⟨by simp; omega, by omega, h3, h4, fun i hi => ?_⟩
  obtain ⟨b, o, e, hc⟩ := h5 i (by omega)
  exact ⟨b, o, e, by rw [hc]; simp [List.getD, hi]⟩

/-- What is behind the first k bytes. -/
theorem Sl.drop {w : World} {ao : Option Addr} {n c : Nat} {l : List Int} (hs : Sl w ao n c l) {k : Nat} (hk : k ≤ n) : Sl w (Option.map (fun x => x.add k) ao) (n - k) (c - k) (l.drop k) := by
  obtain ⟨h1, h2, h3, h4, h5⟩ := hs
  refine ⟨by simp; omega, by omega, by omega, fun h => ?_, fun i hi => ?_⟩
  · cases ao with
    | none => have := h4 rfl; omega
    | some a => simp at h
  obtain ⟨b, o, e, hc⟩ := h5 (k + i) (by omega)
  refine ⟨b, o + k, by rw [e]; by_cases hk0 : k = 0 <;> simp [Addr.add, hk0], ?_⟩
  rw [Nat.add_assoc, hc]
  simp [List.getD, List.getElem?_drop]

theorem Sl.drop_all {w : World} {ao : Option Addr} {n c : Nat} {l : List Int} (hs : Sl w ao n c l) {k : Nat} (hk : n ≤ k) : Sl w ao (n - k) 0 (l.drop k) := by
  obtain ⟨h1, h2, h3, h4, h5⟩ := hs
  refine ⟨by simp; omega, by omega, Nat.zero_le _, fun _ => rfl, fun i hi => by omega⟩

theorem blk_add (ao : Option Addr) (k : Nat) : blk (Option.map (fun x => x.add k) ao) = blk ao := by
  cases ao with
  | none => rfl
  | some a => by_cases hk0 : k = 0 <;> simp [blk, Addr.add, hk0]

theorem Sl.kept' {S : List Nat} {a w : World} (h : Kept S a w) {ao : Option Addr} {n c : Nat} {l : List Int} (hs : Sl a ao n c l) (hS : 0 < n → ∀ k ∈ blk ao, k ∉ S) : Sl w ao n c l := by
  obtain ⟨h1, h2, h3, h4, h5⟩ := hs
  refine ⟨h1, h2, h3, h4, fun i hi => ?_⟩
  obtain ⟨b, o, e, hc⟩ := h5 i hi
  exact ⟨b, o, e, h.cell hc (hS (by omega) b (by rw [e]; simp [blk]))⟩

/-- The block of a slice that is not empty is there. -/
theorem Sl.lt {w : World} {ao : Option Addr} {n c : Nat} {l : List Int} (hs : Sl w ao n c l) (hn : 0 < n) : ∀ k ∈ blk ao, k < w.heap.size := by
  obtain ⟨b, o, rfl, hc⟩ := hs.some hn
  intro k hk
  simp [blk] at hk
  subst hk
  have h0 := hc 0 hn
  unfold World.cell? at h0
  by_cases hlt : k < w.heap.size
  · exact hlt
  · rw [show w.heap[(⟨k, o + 0, none⟩ : Addr).block]? = none from Array.getElem?_eq_none (by show w.heap.size ≤ k; omega)] at h0; simp at h0

theorem Sl.of_owns' {w : World} {base e : Nat} {v : Value} {l : List Int} (ho : w.ownsRow base e 1 v l.length (l.map (Value.int .u8))) :
    ∃ ao n c, v = .slice ao n c ∧ Sl w ao n c l ∧ (∀ k ∈ blk ao, base ≤ k ∧ k < w.heap.size ∧ v.ownBlock = Option.some k) := by
  obtain ⟨ao, c, h1, h2, h3⟩ := Sl.of_owns ho
  exact ⟨ao, l.length, c, h1, h2, h3⟩

/-- A cut from a place that is known, as the walk writes it. -/
theorem Sl.cut {w : World} {ao : Option Addr} {n c : Nat} {l : List Int} (hs : Sl w ao n c l) {k m : Nat} (hk : 0 < k) (h : k ≤ m) (hm : m ≤ n) : Sl w (Option.map (fun x => ({ block := x.block, off := x.off + k } : Addr)) ao) (m - k) (c - k) ((l.take m).drop k) := by
  have h1 := (hs.take hm).drop h
  have e : (fun x : Addr => x.add k) = fun x => ({ block := x.block, off := x.off + k } : Addr) := by
    funext x
    have : k ≠ 0 := by omega
    simp [Addr.add, this]
  rw [e] at h1
  exact h1

theorem blk_cut (ao : Option Addr) (k : Nat) : blk (Option.map (fun x => ({ block := x.block, off := x.off + k } : Addr)) ao) = blk ao := by
  cases ao <;> simp [blk]

/-- A row that was just laid. -/
theorem Sl.lit {w : World} {vs : Array Value} {t : TypeId} {mk : Nat × Nat} {n : Nat} {l : List Int} (hn : l.length = n) (h : vs = (l.map (Value.int .u8)).toArray) (hb : n ≤ maxLen) : Sl (w.alloc (.cells vs t mk)) (Option.some ⟨w.heap.size, 0, none⟩) n n l := by
  subst hn; subst h
  refine ⟨rfl, Nat.le_refl _, hb, by simp, fun i hi => ⟨w.heap.size, 0, rfl, ?_⟩⟩
  rw [World.cell?_alloc_mark]
  simp [List.getD, List.getElem?_eq_getElem hi]

end Go.Proofs.YthhlfehdnefgoabGreat

/-
  A text, out of its bytes.
-/
namespace Go.Proofs.YthhlfehdnefgoabGreat
open Go.RowKit

/-- A text out of its bytes. -/
def str (l : List UInt8) : ByteArray := ⟨l.toArray⟩

theorem str_data (l : List UInt8) : (str l).data.toList = l := by simp [str]
theorem str_size (l : List UInt8) : (str l).size = l.length := by rw [Lib.size_eq, str_data]
theorem str_of (s : ByteArray) : s = str s.data.toList := by cases s; simp [str]
theorem str_inj {a b : List UInt8} (h : str a = str b) : a = b := by rw [← str_data a, h, str_data]
theorem str_nil : str [] = ByteArray.empty := rfl

end Go.Proofs.YthhlfehdnefgoabGreat

/-
  Changes, sorted; changes that may be those of a request: what is said without memory.
-/
namespace Go.Proofs.YthhlfehdnefgoabGreat

/-- One more, behind those that are not above it. -/
def insC (x : Ch) : List Ch → List Ch
  | [] => [x]
  | y :: L => if cmpT y.p x.p ≤ 0 then y :: insC x L else x :: y :: L

/-- Sorted, those of one path in their order. -/
def sortC (L : List Ch) : List Ch := L.foldl (fun M x => insC x M) []

theorem mem_insC {x z : Ch} {L : List Ch} (h : z ∈ insC x L) : z = x ∨ z ∈ L := by
  induction L with
  | nil => simp [insC] at h; exact .inl h
  | cons y L ih =>
    simp only [insC] at h
    split at h
    · rcases List.mem_cons.1 h with rfl | h
      · exact .inr (by simp)
      · rcases ih h with e | e
        · exact .inl e
        · exact .inr (by simp [e])
    · rcases List.mem_cons.1 h with rfl | h
      · exact .inl rfl
      · exact .inr h

theorem insC_ris (x : Ch) {L : List Ch} (h : Ris L) : Ris (insC x L) := by
  induction L with
  | nil => simp [insC, Ris]
  | cons y L ih =>
    unfold Ris at h ih ⊢
    rw [List.pairwise_cons] at h
    simp only [insC]
    split
    · rename_i hc
      rw [List.pairwise_cons]
      refine ⟨fun z hz => ?_, ih h.2⟩
      rcases mem_insC hz with rfl | hz
      · exact hc
      · exact h.1 z hz
    · rename_i hc
      have h1 : cmpT x.p y.p ≤ 0 := by have := ordT.anti x.p y.p; omega
      rw [List.pairwise_cons]
      refine ⟨fun z hz => ?_, by rw [List.pairwise_cons]; exact h⟩
      rcases List.mem_cons.1 hz with rfl | hz
      · exact h1
      · exact cmpT_le h1 (h.1 z hz)

theorem insC_alike (x : Ch) {L : List Ch} (h : Ris L) : Alike (L ++ [x]) (insC x L) := by
  induction L with
  | nil => exact Alike.refl _
  | cons y L ih =>
    unfold Ris at h ih
    rw [List.pairwise_cons] at h
    simp only [insC]
    split
    · exact (Alike.refl [y]).app (ih h.2)
    · rename_i hc
      refine Alike.swap (U := y :: L) (V := [x]) fun u hu v hv e => ?_
      simp at hv
      subst hv
      apply hc
      rcases List.mem_cons.1 hu with rfl | hu
      · rw [e, cmpT_refl]; omega
      · rw [← e]; exact h.1 u hu

theorem sortC_snoc (L : List Ch) (x : Ch) : sortC (L ++ [x]) = insC x (sortC L) := by simp [sortC]

theorem sortC_all (L : List Ch) : Ris (sortC L) ∧ Alike L (sortC L) := by
  rw [← List.reverse_reverse L]
  induction L.reverse with
  | nil => exact ⟨by simp [sortC, Ris], Alike.refl _⟩
  | cons x M ih =>
    rw [List.reverse_cons, sortC_snoc]
    exact ⟨insC_ris x ih.1, (ih.2.app (Alike.refl [x])).trans (insC_alike x ih.1)⟩

theorem sortC_ris (L : List Ch) : Ris (sortC L) := (sortC_all L).1
theorem sortC_alike (L : List Ch) : Alike L (sortC L) := (sortC_all L).2
theorem sortC_length (L : List Ch) : (sortC L).length = L.length := (sortC_alike L).length.symm

/-- May it be a change of a request? -/
def mayB (x : Ch) : Bool := decide (normB x.p = some x.p) && !(x.g && !(x.d == 0))

/-- May they be the changes of a request? -/
def CheckOK (L : List Ch) : Prop := 0 < L.length ∧ L.length ≤ 16 ∧ ∀ i (hi : i < L.length), mayB L[i] = true ∧ ∀ k (hk : k < i), L[k].p ≠ L[i].p

/-- What Check answers. -/
noncomputable def errC (L : List Ch) : Int := @ite _ (CheckOK L) (Classical.propDecidable _) 0 1

theorem errC_ok {L : List Ch} (h : CheckOK L) : errC L = 0 := by unfold errC; rw [if_pos h]
theorem errC_bad {L : List Ch} (h : ¬ CheckOK L) : errC L = 1 := by unfold errC; rw [if_neg h]
theorem errC_zero {L : List Ch} : errC L = 0 ↔ CheckOK L := by
  by_cases h : CheckOK L
  · simp [errC_ok h, h]
  · simp [errC_bad h, h]

theorem checkOK_iff (L : List Ch) : CheckOK L ↔ 0 < L.length ∧ L.length ≤ 16 ∧ (∀ x ∈ L, mayB x = true) ∧ (L.map Ch.p).Nodup := by
  unfold CheckOK
  constructor
  · rintro ⟨h1, h2, h3⟩
    refine ⟨h1, h2, fun x hx => ?_, ?_⟩
    · obtain ⟨i, hi, rfl⟩ := List.getElem_of_mem hx
      exact (h3 i hi).1
    · rw [List.Nodup, List.pairwise_iff_getElem]
      intro i j hi hj hij
      simp only [List.length_map] at hi hj
      simp only [List.getElem_map]
      exact (h3 j hj).2 i hij
  · rintro ⟨h1, h2, h3, h4⟩
    refine ⟨h1, h2, fun i hi => ⟨h3 _ (List.getElem_mem hi), fun k hk => ?_⟩⟩
    rw [List.Nodup, List.pairwise_iff_getElem] at h4
    have := h4 k i (by simp; omega) (by simpa using hi) hk
    simpa using this

end Go.Proofs.YthhlfehdnefgoabGreat

/-
  A commit.
-/
namespace Go.Proofs.YthhlfehdnefgoabGreat

/-- A commit. -/
structure Com where
  r : Int
  b : Int
  n : List UInt8
  c : List Ch
deriving DecidableEq

end Go.Proofs.YthhlfehdnefgoabGreat

/-
  Trees of leaves, and sorted lists of leaves: plain functions, of no program.
-/
namespace Go.Proofs.YthhlfehdnefgoabGreat

/-- A leaf: its path, digest, revision, and whether it is gone. -/
structure Lf where
  p : List UInt8
  d : Int
  r : Int
  g : Bool
deriving DecidableEq

inductive Tr where
  | nil
  | node (l : Tr) (x : Lf) (r : Tr)

namespace Tr

def size : Tr → Nat
  | nil => 0
  | node l _ r => l.size + 1 + r.size

def height : Tr → Nat
  | nil => 0
  | node l _ r => max l.height r.height + 1

def list : Tr → List Lf
  | nil => []
  | node l x r => l.list ++ x :: r.list

def lean : Tr → Int
  | nil => 0
  | node l _ r => (r.height : Int) - l.height

def turnR : Tr → Tr
  | node (node a y b) x r => node a y (node b x r)
  | t => t

def turnL : Tr → Tr
  | node l x (node b y c) => node (node l x b) y c
  | t => t

def turnRR : Tr → Tr
  | node l x r => turnR (node (turnL l) x r)
  | t => t

def turnLL : Tr → Tr
  | node l x r => turnL (node l x (turnR r))
  | t => t

def left : Tr → Tr
  | nil => nil
  | node l _ _ => l

def right : Tr → Tr
  | nil => nil
  | node _ _ r => r

def level (t : Tr) : Tr :=
  if t.lean < -1 then (if 0 < t.left.lean then turnRR t else turnR t)
  else if 1 < t.lean then (if t.right.lean < 0 then turnLL t else turnL t) else t

def put (x : Lf) : Tr → Tr
  | nil => node nil x nil
  | node l y r => if cmpT x.p y.p = -1 then level (node (put x l) y r) else if cmpT x.p y.p = 1 then level (node l y (put x r)) else node l x r

/-- What is not ahead of a path, as the walk finds it. -/
def ge (f : List UInt8) : Tr → List Lf
  | nil => []
  | node l x r => if cmpT x.p f < 0 then ge f r else ge f l ++ x :: ge f r

def get (f : List UInt8) : Tr → Option Lf
  | nil => none
  | node l x r => if cmpT f x.p = -1 then get f l else if cmpT f x.p = 1 then get f r else some x

/-- How a tree is balanced. -/
def bal : Tr → Prop
  | nil => True
  | node l _ r => l.bal ∧ r.bal ∧ l.height ≤ r.height + 1 ∧ r.height ≤ l.height + 1

end Tr

theorem tr_size (t : Tr) : t.list.length = t.size := by
  induction t with
  | nil => rfl
  | node l x r h1 h2 => simp [Tr.list, Tr.size, h1, h2]; omega

theorem tr_height (t : Tr) : t.height ≤ t.size := by
  induction t with
  | nil => exact Nat.le_refl _
  | node l x r h1 h2 => simp only [Tr.height, Tr.size]; omega

theorem turnR_list (t : Tr) : (Tr.turnR t).list = t.list := by
  unfold Tr.turnR; split <;> simp [Tr.list]

theorem turnL_list (t : Tr) : (Tr.turnL t).list = t.list := by
  unfold Tr.turnL; split <;> simp [Tr.list]

theorem turnRR_list (t : Tr) : (Tr.turnRR t).list = t.list := by
  unfold Tr.turnRR; split
  · rw [turnR_list]; simp [Tr.list, turnL_list]
  · rfl

theorem turnLL_list (t : Tr) : (Tr.turnLL t).list = t.list := by
  unfold Tr.turnLL; split
  · rw [turnL_list]; simp [Tr.list, turnR_list]
  · rfl

theorem level_list (t : Tr) : (Tr.level t).list = t.list := by
  unfold Tr.level
  split
  · split
    · exact turnRR_list t
    · exact turnR_list t
  · split
    · split
      · exact turnLL_list t
      · exact turnL_list t
    · rfl

/- Sorted lists. -/

def Srt (L : List Lf) : Prop := L.Pairwise fun a b => cmpT a.p b.p < 0

/-- One leaf more, at its place. -/
def ins (x : Lf) : List Lf → List Lf
  | [] => [x]
  | y :: ys => if cmpT x.p y.p = 0 then x :: ys else if cmpT x.p y.p < 0 then x :: y :: ys else y :: ins x ys

theorem cmpT_vals (a b : List UInt8) : cmpT a b = -1 ∨ cmpT a b = 0 ∨ cmpT a b = 1 := cmpP_vals _ _

theorem cmpT_lt {a b c : List UInt8} (h1 : cmpT a b < 0) (h2 : cmpT b c < 0) : cmpT a c < 0 := by
  have := ordT.strict (x := a) (y := b) (z := c) (by omega) (by omega)
  omega

theorem cmpT_self (a : List UInt8) : cmpT a a = 0 := (ordT.zero a a).2 rfl

theorem cmpT_le_lt {a b c : List UInt8} (h1 : cmpT a b ≤ 0) (h2 : cmpT b c < 0) : cmpT a c < 0 := by
  have := ordT.strict (x := a) (y := b) (z := c) (by omega) (by omega)
  omega

theorem cmpT_lt_le {a b c : List UInt8} (h1 : cmpT a b < 0) (h2 : cmpT b c ≤ 0) : cmpT a c < 0 := by
  have := ordT.strict (x := a) (y := b) (z := c) (by omega) (by omega)
  omega

theorem srt_app {A B : List Lf} {y : Lf} (h : Srt (A ++ y :: B)) : Srt A ∧ Srt B ∧ (∀ a ∈ A, cmpT a.p y.p < 0) ∧ (∀ b ∈ B, cmpT y.p b.p < 0) ∧ ∀ a ∈ A, ∀ b ∈ B, cmpT a.p b.p < 0 := by
  unfold Srt at h ⊢
  rw [List.pairwise_append, List.pairwise_cons] at h
  exact ⟨h.1, h.2.1.2, fun a ha => h.2.2 a ha y (by simp), h.2.1.1, fun a ha b hb => h.2.2 a ha b (by simp [hb])⟩

theorem ins_ahead (x y : Lf) (A B : List Lf) (h : cmpT x.p y.p = -1) : ins x (A ++ y :: B) = ins x A ++ y :: B := by
  induction A with
  | nil => simp [ins, h]
  | cons z A ih =>
    simp only [List.cons_append, ins]
    split
    · rfl
    · split
      · rfl
      · rw [ih]; rfl

theorem ins_behind (x y : Lf) (A B : List Lf) (hA : ∀ a ∈ A, cmpT a.p y.p < 0) (h : cmpT x.p y.p = 1) : ins x (A ++ y :: B) = A ++ y :: ins x B := by
  have hyx : cmpT y.p x.p = -1 := by rw [ordT.anti x.p y.p, h]
  induction A with
  | nil => simp [ins, h]
  | cons z A ih =>
    have hz : cmpT z.p x.p < 0 := cmpT_lt (hA z (by simp)) (by omega)
    have hxz := ordT.anti z.p x.p
    simp only [List.cons_append, ins]
    rw [if_neg (by omega), if_neg (by omega), ih (fun a ha => hA a (by simp [ha]))]

theorem ins_there (x y : Lf) (A B : List Lf) (hA : ∀ a ∈ A, cmpT a.p y.p < 0) (h : cmpT x.p y.p = 0) : ins x (A ++ y :: B) = A ++ x :: B := by
  have e := (ordT.zero _ _).1 h
  induction A with
  | nil => simp [ins, h]
  | cons z A ih =>
    have hz : cmpT z.p x.p < 0 := by rw [e]; exact hA z (by simp)
    have hxz := ordT.anti z.p x.p
    simp only [List.cons_append, ins]
    rw [if_neg (by omega), if_neg (by omega), ih (fun a ha => hA a (by simp [ha]))]

theorem mem_ins {x z : Lf} {L : List Lf} (h : z ∈ ins x L) : z = x ∨ z ∈ L := by
  induction L with
  | nil => simpa [ins] using h
  | cons y L ih =>
    simp only [ins] at h
    split at h
    · simp only [List.mem_cons] at h ⊢; rcases h with h | h; exact .inl h; exact .inr (.inr h)
    · split at h
      · simp only [List.mem_cons] at h ⊢; exact h
      · simp only [List.mem_cons] at h ⊢
        rcases h with h | h
        · exact .inr (.inl h)
        · rcases ih h with h | h
          · exact .inl h
          · exact .inr (.inr h)

theorem ins_srt (x : Lf) (L : List Lf) (h : Srt L) : Srt (ins x L) := by
  unfold Srt at h ⊢
  induction L with
  | nil => simp [ins]
  | cons y L ih =>
    rw [List.pairwise_cons] at h
    simp only [ins]
    split
    · rename_i e
      have e := (ordT.zero _ _).1 e
      rw [List.pairwise_cons]
      exact ⟨fun a ha => by rw [e]; exact h.1 a ha, h.2⟩
    · split
      · rename_i e1 e2
        rw [List.pairwise_cons, List.pairwise_cons]
        refine ⟨fun a ha => ?_, h⟩
        simp only [List.mem_cons] at ha
        rcases ha with rfl | ha
        · exact e2
        · exact cmpT_lt e2 (h.1 a ha)
      · rename_i e1 e2
        rw [List.pairwise_cons]
        refine ⟨fun a ha => ?_, ih h.2⟩
        rcases mem_ins ha with rfl | ha
        · have := ordT.anti y.p a.p; omega
        · exact h.1 a ha

theorem ins_length (x : Lf) (L : List Lf) : (ins x L).length ≤ L.length + 1 ∧ L.length ≤ (ins x L).length := by
  induction L with
  | nil => simp [ins]
  | cons y L ih =>
    simp only [ins]
    split
    · simp
    · split
      · simp
      · simp only [List.length_cons]; omega

theorem put_list (x : Lf) (t : Tr) (h : Srt t.list) : (t.put x).list = ins x t.list := by
  induction t with
  | nil => rfl
  | node l y r h1 h2 =>
    obtain ⟨a1, a2, a3, a4, a5⟩ := srt_app h
    simp only [Tr.put, Tr.list]
    rcases cmpT_vals x.p y.p with e | e | e
    · rw [if_pos e, level_list, ins_ahead x y _ _ e]; simp only [Tr.list]; rw [h1 a1]
    · rw [if_neg (by omega), if_neg (by omega), ins_there x y _ _ a3 e]; rfl
    · rw [if_neg (by omega), if_pos e, level_list, ins_behind x y _ _ a3 e]; simp only [Tr.list]; rw [h2 a2]

theorem put_srt (x : Lf) (t : Tr) (h : Srt t.list) : Srt (t.put x).list := by
  rw [put_list x t h]; exact ins_srt x _ h

/- The heights. -/

theorem bal_turnR {l r : Tr} {y : Lf} (hl : l.bal) (hr : r.bal) (e : l.height = r.height + 2) (hle : ¬ 0 < l.lean) : (Tr.turnR (.node l y r)).bal ∧ ((Tr.turnR (.node l y r)).height = r.height + 2 ∨ (Tr.turnR (.node l y r)).height = r.height + 3) := by
  cases l with
  | nil => simp [Tr.height] at e
  | node a z b =>
    simp only [Tr.bal, Tr.height, Tr.lean, Tr.turnR] at *
    refine ⟨⟨hl.1, ⟨hl.2.1, hr, ?_, ?_⟩, ?_, ?_⟩, ?_⟩ <;> omega

theorem bal_turnL {l r : Tr} {y : Lf} (hl : l.bal) (hr : r.bal) (e : r.height = l.height + 2) (hle : ¬ r.lean < 0) : (Tr.turnL (.node l y r)).bal ∧ ((Tr.turnL (.node l y r)).height = l.height + 2 ∨ (Tr.turnL (.node l y r)).height = l.height + 3) := by
  cases r with
  | nil => simp [Tr.height] at e
  | node a z b =>
    simp only [Tr.bal, Tr.height, Tr.lean, Tr.turnL] at *
    refine ⟨⟨⟨hl, hr.1, ?_, ?_⟩, hr.2.1, ?_, ?_⟩, ?_⟩ <;> omega

theorem bal_turnRR {l r : Tr} {y : Lf} (hl : l.bal) (hr : r.bal) (e : l.height = r.height + 2) (hle : 0 < l.lean) : (Tr.turnRR (.node l y r)).bal ∧ (Tr.turnRR (.node l y r)).height = r.height + 2 := by
  cases l with
  | nil => simp [Tr.height] at e
  | node a z b =>
    cases b with
    | nil => simp only [Tr.lean, Tr.height] at hle; omega
    | node c u d =>
      simp only [Tr.bal, Tr.height, Tr.lean, Tr.turnRR, Tr.turnL, Tr.turnR] at *
      refine ⟨⟨⟨hl.1, hl.2.1.1, ?_, ?_⟩, ⟨hl.2.1.2.1, hr, ?_, ?_⟩, ?_, ?_⟩, ?_⟩ <;> omega

theorem bal_turnLL {l r : Tr} {y : Lf} (hl : l.bal) (hr : r.bal) (e : r.height = l.height + 2) (hle : r.lean < 0) : (Tr.turnLL (.node l y r)).bal ∧ (Tr.turnLL (.node l y r)).height = l.height + 2 := by
  cases r with
  | nil => simp [Tr.height] at e
  | node a z b =>
    cases a with
    | nil => simp only [Tr.lean, Tr.height] at hle; omega
    | node c u d =>
      simp only [Tr.bal, Tr.height, Tr.lean, Tr.turnLL, Tr.turnL, Tr.turnR] at *
      refine ⟨⟨⟨hl, hr.1.1, ?_, ?_⟩, ⟨hr.1.2.1, hr.2.1, ?_, ?_⟩, ?_, ?_⟩, ?_⟩ <;> omega

theorem put_bal (x : Lf) (t : Tr) (h : t.bal) : (t.put x).bal ∧ t.height ≤ (t.put x).height ∧ (t.put x).height ≤ t.height + 1 := by
  induction t with
  | nil => simp [Tr.put, Tr.bal, Tr.height]
  | node l y r h1 h2 =>
    obtain ⟨hl, hr, b1, b2⟩ := h
    simp only [Tr.put]
    rcases cmpT_vals x.p y.p with e | e | e
    · rw [if_pos e]
      obtain ⟨g1, g2, g3⟩ := h1 hl
      have hln : (Tr.node (l.put x) y r).lean = (r.height : Int) - (l.put x).height := rfl
      unfold Tr.level
      by_cases c : (l.put x).height = r.height + 2
      · rw [if_pos (by omega)]
        by_cases c2 : 0 < (Tr.node (l.put x) y r).left.lean
        · rw [if_pos c2]
          have := bal_turnRR (y := y) g1 hr c c2
          refine ⟨this.1, ?_⟩
          rw [this.2]; simp only [Tr.height]; omega
        · rw [if_neg c2]
          have := bal_turnR (y := y) g1 hr c c2
          refine ⟨this.1, ?_⟩
          simp only [Tr.height]; omega
      · rw [if_neg (by omega), if_neg (by omega)]
        refine ⟨⟨g1, hr, by omega, by omega⟩, ?_⟩
        simp only [Tr.height]; omega
    · rw [if_neg (by omega), if_neg (by omega)]
      exact ⟨⟨hl, hr, b1, b2⟩, Nat.le_refl _, Nat.le_succ _⟩
    · rw [if_neg (by omega), if_pos e]
      obtain ⟨g1, g2, g3⟩ := h2 hr
      have hln : (Tr.node l y (r.put x)).lean = ((r.put x).height : Int) - l.height := rfl
      unfold Tr.level
      by_cases c : (r.put x).height = l.height + 2
      · rw [if_neg (by omega), if_pos (by omega)]
        by_cases c2 : (Tr.node l y (r.put x)).right.lean < 0
        · rw [if_pos c2]
          have := bal_turnLL (y := y) hl g1 c c2
          refine ⟨this.1, ?_⟩
          rw [this.2]; simp only [Tr.height]; omega
        · rw [if_neg c2]
          have := bal_turnL (y := y) hl g1 c c2
          refine ⟨this.1, ?_⟩
          simp only [Tr.height]; omega
      · rw [if_neg (by omega), if_neg (by omega)]
        refine ⟨⟨hl, g1, by omega, by omega⟩, ?_⟩
        simp only [Tr.height]; omega

theorem bal_deep (n : Nat) : ∀ t : Tr, t.bal → 2 * n ≤ t.height → 2 ^ n ≤ t.size + 1 := by
  induction n with
  | zero => intro t _ _; simp
  | succ n ih =>
    intro t hb hh
    cases t with
    | nil => simp [Tr.height] at hh
    | node l x r =>
      obtain ⟨hl, hr, b1, b2⟩ := hb
      simp only [Tr.height] at hh
      have i1 := ih l hl (by omega)
      have i2 := ih r hr (by omega)
      simp only [Tr.size]
      rw [Nat.pow_succ]; omega

/- What is told. -/

theorem cmpT_nil (p : List UInt8) : 0 ≤ cmpT p [] := by
  rw [ordT.anti [] p]
  have h : cmpT [] p ≤ 0 := by
    unfold cmpT cmpP
    have hne := partsB_ne p
    cases hq : partsB p with
    | nil => exact absurd hq hne
    | cons q qs =>
      show lexC Lib.compareBytes [[]] (q :: qs) ≤ 0
      simp only [lexC]
      cases q with
      | nil => rw [if_pos ((ordB.zero [] []).2 rfl)]; cases qs <;> simp [lexC]
      | cons c q => simp [Lib.compareBytes]
  omega

theorem ge_list (f : List UInt8) (t : Tr) (h : Srt t.list) : t.ge f = t.list.filter fun x => decide (0 ≤ cmpT x.p f) := by
  induction t with
  | nil => rfl
  | node l x r h1 h2 =>
    obtain ⟨a1, a2, a3, a4, a5⟩ := srt_app h
    simp only [Tr.ge, Tr.list, List.filter_append, List.filter_cons]
    by_cases c : cmpT x.p f < 0
    · rw [if_pos c, decide_eq_false (by omega), h2 a2]
      have : l.list.filter (fun x => decide (0 ≤ cmpT x.p f)) = [] := by
        rw [List.filter_eq_nil_iff]
        intro a ha
        have := cmpT_lt (a3 a ha) c
        simp; omega
      rw [this]; simp
    · rw [if_neg c, decide_eq_true (by omega), h1 a1, h2 a2]; simp

theorem get_mem {t : Tr} (h : Srt t.list) (f : List UInt8) : t.get f = t.list.find? fun x => decide (f = x.p) := by
  induction t with
  | nil => rfl
  | node l x r h1 h2 =>
    obtain ⟨a1, a2, a3, a4, a5⟩ := srt_app h
    simp only [Tr.get, Tr.list, List.find?_append, List.find?_cons]
    rcases cmpT_vals f x.p with e | e | e
    · rw [if_pos e, h1 a1]
      have hne : f ≠ x.p := fun q => by rw [(ordT.zero _ _).2 q] at e; omega
      rw [decide_eq_false hne]
      have : r.list.find? (fun x => decide (f = x.p)) = none := by
        rw [List.find?_eq_none]
        intro b hb q
        simp at q
        have h3 := cmpT_lt (show cmpT f x.p < 0 by omega) (a4 b hb)
        rw [q, cmpT_self] at h3; omega
      rw [this]; simp
    · have q := (ordT.zero _ _).1 e
      rw [if_neg (by omega), if_neg (by omega), decide_eq_true q]
      have : l.list.find? (fun x => decide (f = x.p)) = none := by
        rw [List.find?_eq_none]
        intro b hb q2
        simp at q2
        have h3 := a3 b hb
        rw [← q2, q, cmpT_self] at h3; omega
      rw [this]; simp
    · rw [if_neg (by omega), if_pos e, h2 a2]
      have hne : f ≠ x.p := fun q => by rw [(ordT.zero _ _).2 q] at e; omega
      rw [decide_eq_false hne]
      have : l.list.find? (fun x => decide (f = x.p)) = none := by
        rw [List.find?_eq_none]
        intro b hb q2
        simp at q2
        have h3 := a3 b hb
        rw [← q2] at h3; omega
      rw [this]; simp

/-- Of a sorted list, what comes first and keeps to a bound, is all that does. -/
theorem take_filter (P : Lf → Bool) (L : List Lf) (hS : Srt L) (hP : ∀ a ∈ L, ∀ b ∈ L, cmpT a.p b.p < 0 → P b = true → P a = true) : L.takeWhile P = L.filter P := by
  induction L with
  | nil => rfl
  | cons a L ih =>
    unfold Srt at hS
    rw [List.pairwise_cons] at hS
    rw [List.takeWhile_cons, List.filter_cons]
    by_cases h : P a = true
    · rw [if_pos h, if_pos h, ih hS.2 (fun x hx y hy => hP x (by simp [hx]) y (by simp [hy]))]
    · rw [if_neg h, if_neg h]
      symm
      rw [List.filter_eq_nil_iff]
      intro b hb hb2
      exact h (hP a (by simp) b (by simp [hb]) (hS.1 b hb) hb2)

theorem srt_filter (P : Lf → Bool) {L : List Lf} (h : Srt L) : Srt (L.filter P) := List.Pairwise.filter _ h

/-- Is it ahead of to (an empty one is behind all)? -/
def ahead (to p : List UInt8) : Bool := to.isEmpty || decide (cmpT p to < 0)

def rangeL (f to : List UInt8) (L : List Lf) : List Lf := L.filter fun x => decide (0 ≤ cmpT x.p f) && ahead to x.p
def underL (d : List UInt8) (L : List Lf) : List Lf := L.filter fun x => withinB d x.p

theorem all_told (t : Tr) (h : Srt t.list) : (t.ge []).takeWhile (fun _ => true) = t.list := by
  rw [ge_list _ t h]
  have : t.list.filter (fun x => decide (0 ≤ cmpT x.p [])) = t.list := by
    rw [List.filter_eq_self]; intro a _; simpa using cmpT_nil a.p
  rw [this]
  induction t.list with
  | nil => rfl
  | cons a L ih => rw [List.takeWhile_cons, if_pos rfl, ih]

theorem range_told (t : Tr) (h : Srt t.list) (f to : List UInt8) : (t.ge f).takeWhile (fun x => ahead to x.p) = rangeL f to t.list := by
  rw [ge_list _ t h, take_filter _ _ (srt_filter _ h), List.filter_filter]
  · unfold rangeL
    congr 1
    funext x
    rw [Bool.and_comm]
  · intro a _ b _ hab hb
    unfold ahead at hb ⊢
    simp only [Bool.or_eq_true, decide_eq_true_eq] at hb ⊢
    rcases hb with hb | hb
    · exact .inl hb
    · exact .inr (cmpT_lt hab hb)

theorem under_told (t : Tr) (h : Srt t.list) (d : List UInt8) : (t.ge d).takeWhile (fun x => withinB d x.p) = underL d t.list := by
  have hge : ∀ x : Lf, withinB d x.p = true → 0 ≤ cmpT x.p d := by
    intro x hx
    by_cases e : d = []
    · subst e; exact cmpT_nil _
    · have h1 := within_first d x.p e hx
      have h2 := ordT.anti d x.p
      omega
  rw [ge_list _ t h, take_filter _ _ (srt_filter _ h), List.filter_filter]
  · unfold underL
    congr 1
    funext x
    cases hw : withinB d x.p with
    | false => rfl
    | true => simpa using hge x hw
  · intro a ha b _ hab hb
    simp only [List.mem_filter, decide_eq_true_eq] at ha
    have h1 : cmpT d a.p ≤ 0 := by have := ordT.anti a.p d; omega
    rcases (withinB_iff d b.p).1 hb with e | e | ⟨t, e⟩
    · rw [e]; rfl
    · rw [e] at hab; omega
    · rw [e] at hab; exact within_between d a.p t h1 (by omega)

end Go.Proofs.YthhlfehdnefgoabGreat

/-
  Leaves put one behind the other: of each path the last one is there; there are as many as unlike paths.
-/
namespace Go.Proofs.YthhlfehdnefgoabGreat

/-- All leaves of a list, put one behind the other. -/
def insAll (M : List Lf) : List Lf → List Lf
  | [] => M
  | x :: L => insAll (ins x M) L

theorem insAll_app (M A B : List Lf) : insAll M (A ++ B) = insAll (insAll M A) B := by
  induction A generalizing M with
  | nil => rfl
  | cons x A ih => exact ih _

theorem find_ins (p : List UInt8) (x : Lf) (M : List Lf) : (ins x M).find? (fun y => decide (p = y.p)) = if p = x.p then some x else M.find? (fun y => decide (p = y.p)) := by
  induction M with
  | nil => by_cases h : p = x.p <;> simp [ins, h]
  | cons y M ih =>
    simp only [ins]
    by_cases h0 : cmpT x.p y.p = 0
    · have e := (ordT.zero _ _).1 h0
      rw [if_pos h0, List.find?_cons, List.find?_cons, ← e]
      by_cases h : p = x.p <;> simp [h]
    · have hne : x.p ≠ y.p := fun e => h0 ((ordT.zero _ _).2 e)
      rw [if_neg h0]
      by_cases h1 : cmpT x.p y.p < 0
      · rw [if_pos h1, List.find?_cons]
        by_cases h : p = x.p <;> simp [h]
      · rw [if_neg h1, List.find?_cons, ih, List.find?_cons]
        by_cases h : p = y.p
        · have : p ≠ x.p := fun e => hne (e.symm.trans h)
          rw [decide_eq_true h, if_neg this, if_neg this]
        · rw [decide_eq_false h]

def pathsL (L : List Lf) : List (List UInt8) := L.map (·.p)

theorem find_insAll (p : List UInt8) (M C : List Lf) (z : Lf) (hz : M.find? (fun y => decide (p = y.p)) = some z) : ∃ z', (insAll M C).find? (fun y => decide (p = y.p)) = some z' ∧ (p ∉ pathsL C → z' = z) := by
  induction C generalizing M z with
  | nil => exact ⟨z, hz, fun _ => rfl⟩
  | cons x C ih =>
    by_cases h : p = x.p
    · obtain ⟨z', h1, _⟩ := ih (ins x M) x (by rw [find_ins, if_pos h])
      exact ⟨z', h1, fun hn => absurd (by rw [h]; simp [pathsL]) hn⟩
    · obtain ⟨z', h1, h2⟩ := ih (ins x M) z (by rw [find_ins, if_neg h]; exact hz)
      exact ⟨z', h1, fun hn => h2 (fun hm => hn (by unfold pathsL at hm ⊢; simp only [List.map_cons, List.mem_cons]; exact .inr hm))⟩

/-- Of each path of the list the leaf that was put last is there. -/
theorem last_there (L : List Lf) (i : Nat) (hi : i < L.length) : ∃ z, (insAll [] L).find? (fun y => decide (L[i].p = y.p)) = some z ∧ (L[i].p ∉ pathsL (L.drop (i + 1)) → z = L[i]) := by
  have e : L = L.take i ++ L[i] :: L.drop (i + 1) := by rw [← List.drop_eq_getElem_cons hi, List.take_append_drop]
  have e2 : insAll [] L = insAll (ins L[i] (insAll [] (L.take i))) (L.drop (i + 1)) := by
    conv => lhs; rw [e]
    rw [insAll_app]
    rfl
  rw [e2]
  exact find_insAll _ _ _ _ (by rw [find_ins, if_pos rfl])

/-- The leaves behind which no one of the same path stands. -/
def lastL : List Lf → List Lf
  | [] => []
  | x :: L => if x.p ∈ pathsL L then lastL L else x :: lastL L

theorem lastL_mem (p : List UInt8) (L : List Lf) : p ∈ pathsL (lastL L) ↔ p ∈ pathsL L := by
  induction L with
  | nil => simp [lastL]
  | cons x L ih =>
    simp only [lastL]
    split
    · rename_i h
      rw [ih]
      unfold pathsL at h ⊢
      simp only [List.map_cons, List.mem_cons]
      constructor
      · exact .inr
      · rintro (rfl | h1)
        · exact h
        · exact h1
    · unfold pathsL at ih ⊢
      simp only [List.map_cons, List.mem_cons]
      rw [ih]

theorem lastL_nodup (L : List Lf) : (pathsL (lastL L)).Nodup := by
  induction L with
  | nil => simp [lastL, pathsL]
  | cons x L ih =>
    simp only [lastL]
    split
    · exact ih
    · rename_i h
      have h2 : x.p ∉ pathsL (lastL L) := fun h1 => h ((lastL_mem _ _).1 h1)
      unfold pathsL at ih h2 ⊢
      simp only [List.map_cons, List.nodup_cons]
      exact ⟨h2, ih⟩

theorem ins_mem (p : List UInt8) (x : Lf) (M : List Lf) : p ∈ pathsL (ins x M) ↔ p = x.p ∨ p ∈ pathsL M := by
  unfold pathsL
  induction M with
  | nil => simp [ins]
  | cons y M ih =>
    simp only [ins]
    split
    · rename_i h
      have e := (ordT.zero _ _).1 h
      simp only [List.map_cons, List.mem_cons]
      rw [e]; simp
    · split
      · simp only [List.map_cons, List.mem_cons]
      · simp only [List.map_cons, List.mem_cons, ih]
        constructor
        · rintro (h | h | h)
          · exact .inr (.inl h)
          · exact .inl h
          · exact .inr (.inr h)
        · rintro (h | h | h)
          · exact .inr (.inl h)
          · exact .inl h
          · exact .inr (.inr h)

theorem insAll_mem (p : List UInt8) (M L : List Lf) : p ∈ pathsL (insAll M L) ↔ p ∈ pathsL M ∨ p ∈ pathsL L := by
  induction L generalizing M with
  | nil => simp [insAll, pathsL]
  | cons x L ih =>
    simp only [insAll]
    rw [ih, ins_mem]
    unfold pathsL
    simp only [List.map_cons, List.mem_cons]
    constructor
    · rintro ((h | h) | h)
      · exact .inr (.inl h)
      · exact .inl h
      · exact .inr (.inr h)
    · rintro (h | h | h)
      · exact .inl (.inr h)
      · exact .inl (.inl h)
      · exact .inr h

theorem srt_nodup {L : List Lf} (h : Srt L) : (pathsL L).Nodup := by
  unfold pathsL Srt at *
  rw [List.nodup_iff_pairwise_ne, List.pairwise_map]
  refine List.Pairwise.imp ?_ h
  intro a b hab e
  rw [e, cmpT_self] at hab
  omega

theorem nodup_le {A B : List (List UInt8)} (h : A.Nodup) (hs : ∀ a ∈ A, a ∈ B) : A.length ≤ B.length := by
  induction A generalizing B with
  | nil => simp
  | cons a A ih =>
    rw [List.nodup_cons] at h
    have ha : a ∈ B := hs a (by simp)
    have h1 := ih (B := B.erase a) h.2 (fun b hb => by
      have hne : b ≠ a := fun e => h.1 (by rw [← e]; exact hb)
      exact (List.mem_erase_of_ne hne).2 (hs b (by simp [hb])))
    rw [List.length_erase_of_mem ha] at h1
    have : 0 < B.length := List.length_pos_of_mem ha
    simp only [List.length_cons]
    omega

theorem unlike_count {L : List Lf} (h : Srt (insAll [] L)) : (insAll [] L).length = (lastL L).length := by
  have n1 := srt_nodup h
  have n2 := lastL_nodup L
  have l1 : (pathsL (insAll [] L)).length = (insAll [] L).length := by simp [pathsL]
  have l2 : (pathsL (lastL L)).length = (lastL L).length := by simp [pathsL]
  have a := nodup_le (B := pathsL (lastL L)) n1 (fun p hp => (lastL_mem p L).2 (by rcases (insAll_mem p [] L).1 hp with h | h; simp [pathsL] at h; exact h))
  have b := nodup_le (B := pathsL (insAll [] L)) n2 (fun p hp => (insAll_mem p [] L).2 (.inr ((lastL_mem p L).1 hp)))
  omega

theorem lastL_drop {L : List Lf} {j : Nat} (hj : j < L.length) : lastL (L.drop j) = if L[j].p ∈ pathsL (L.drop (j + 1)) then lastL (L.drop (j + 1)) else L[j] :: lastL (L.drop (j + 1)) := by
  rw [List.drop_eq_getElem_cons hj]; rfl

theorem lastL_le (L : List Lf) : (lastL L).length ≤ L.length := by
  induction L with
  | nil => simp [lastL]
  | cons x L ih => simp only [lastL]; split <;> simp <;> omega

end Go.Proofs.YthhlfehdnefgoabGreat

/-
  Graphs as lists: commits, leaves, refs; what landing, reading, loading make of them.
-/
namespace Go.Proofs.YthhlfehdnefgoabGreat

/-- A graph: its commits, its leaves in order, its refs in order. -/
structure Gr where
  cs : List Com
  ls : List Lf
  rs : List (List UInt8 × Int)

def voidG : Gr := ⟨[], [], []⟩

/-- The leaf of a path. -/
def findL (p : List UInt8) (L : List Lf) : Option Lf := L.find? fun y => decide (p = y.p)

/-- The first of these changes whose path was changed behind b: its path, and by whom. -/
def confl (ls : List Lf) (b : Int) : List Ch → Option (List UInt8 × Int)
  | [] => none
  | x :: l => match findL x.p ls with
    | some y => if b < y.r then some (x.p, y.r) else confl ls b l
    | none => confl ls b l

/-- The leaves behind these changes, by the revision r. -/
def putC (r : Int) (ls : List Lf) (l : List Ch) : List Lf := l.foldl (fun a x => ins ⟨x.p, x.d, r, x.g⟩ a) ls

/-- The ref n is moved to r. -/
def mvR (n : List UInt8) (r : Int) : List (List UInt8 × Int) → List (List UInt8 × Int)
  | [] => [(n, r)]
  | x :: l => if x.1 < n then x :: mvR n r l else if x.1 = n then (n, r) :: l else (n, r) :: x :: l

/-- A verdict: its code, revision, path, digest. -/
structure Vd where
  c : Int
  r : Int
  p : List UInt8
  d : Int
deriving DecidableEq

/-- May this not be asked? -/
noncomputable def badB (b : Int) (n : List UInt8) (L : List Ch) : Bool := !(errC L == 0) || (!n.isEmpty && !wordB false n) || decide (b < 0)

/-- The verdict that ends a landing, if there is one. -/
noncomputable def endV (G : Gr) (b : Int) (n : List UInt8) (L : List Ch) : Option Vd :=
  if badB b n L = true then some ⟨5, 0, [], 0⟩
  else if (G.cs.length : Int) < b then some ⟨4, G.cs.length, [], 0⟩
  else (confl G.ls b (sortC L)).map fun x => ⟨3, x.2, x.1, 0⟩

noncomputable def landV (G : Gr) (b : Int) (n : List UInt8) (L : List Ch) : Vd := (endV G b n L).getD ⟨2, (G.cs.length : Int) + 1, [], 0⟩

/-- The commit that lands. -/
def newC (G : Gr) (b : Int) (n : List UInt8) (L : List Ch) : Com := ⟨(G.cs.length : Int) + 1, b, n, sortC L⟩

/-- The refs behind a commit. -/
def rsAdd (n : List UInt8) (r : Int) (l : List (List UInt8 × Int)) : List (List UInt8 × Int) :=
  match n with
  | [] => l
  | c :: m => mvR (c :: m) r l

theorem rsAdd_some {n : List UInt8} (h : n ≠ []) (r : Int) (l : List (List UInt8 × Int)) : rsAdd n r l = mvR n r l := by
  cases n with
  | nil => exact absurd rfl h
  | cons c m => rfl

def addG (G : Gr) (c : Com) : Gr := ⟨G.cs ++ [c], putC c.r G.ls c.c, rsAdd c.n c.r G.rs⟩

noncomputable def landG (G : Gr) (b : Int) (n : List UInt8) (L : List Ch) : Gr :=
  match endV G b n L with
  | some _ => G
  | none => addG G (newC G b n L)

theorem landV_some {G : Gr} {b : Int} {n : List UInt8} {L : List Ch} {v : Vd} (h : endV G b n L = some v) : landV G b n L = v ∧ landG G b n L = G := by
  simp [landV, landG, h]

theorem landV_none {G : Gr} {b : Int} {n : List UInt8} {L : List Ch} (h : endV G b n L = none) : landV G b n L = ⟨2, (G.cs.length : Int) + 1, [], 0⟩ ∧ landG G b n L = addG G (newC G b n L) := by
  simp [landV, landG, h]

theorem endV_bad {G : Gr} {b : Int} {n : List UInt8} {L : List Ch} (h : badB b n L = true) : endV G b n L = some ⟨5, 0, [], 0⟩ := by simp [endV, h]
theorem endV_ahead {G : Gr} {b : Int} {n : List UInt8} {L : List Ch} (h : badB b n L = false) (h2 : (G.cs.length : Int) < b) : endV G b n L = some ⟨4, G.cs.length, [], 0⟩ := by simp [endV, h, h2]
theorem endV_conf {G : Gr} {b : Int} {n : List UInt8} {L : List Ch} (h : badB b n L = false) (h2 : ¬ (G.cs.length : Int) < b) : endV G b n L = (confl G.ls b (sortC L)).map fun x => ⟨3, x.2, x.1, 0⟩ := by simp [endV, h, h2]

theorem endV_none {G : Gr} {b : Int} {n : List UInt8} {L : List Ch} (h : endV G b n L = none) : badB b n L = false ∧ b ≤ (G.cs.length : Int) ∧ confl G.ls b (sortC L) = none := by
  unfold endV at h
  by_cases h1 : badB b n L = true
  · simp [h1] at h
  by_cases h2 : (G.cs.length : Int) < b
  · simp [h1, h2] at h
  simp [h1, h2] at h
  exact ⟨by simpa using h1, by omega, h⟩

theorem badB_false {b : Int} {n : List UInt8} {L : List Ch} (h : badB b n L = false) : CheckOK L ∧ (n = [] ∨ wordB false n = true) ∧ 0 ≤ b := by
  simp only [badB, Bool.or_eq_false_iff, Bool.not_eq_false', beq_iff_eq, Bool.and_eq_false_iff, decide_eq_false_iff_not, List.isEmpty_iff] at h
  obtain ⟨⟨h1, h2⟩, h3⟩ := h
  refine ⟨errC_zero.1 h1, h2, by omega⟩

/-- Which codes a landing has. -/
theorem landV_code (G : Gr) (b : Int) (n : List UInt8) (L : List Ch) : (landV G b n L).c = 2 ↔ endV G b n L = none := by
  constructor
  · intro h
    cases he : endV G b n L with
    | none => rfl
    | some v =>
      rw [(landV_some he).1] at h
      unfold endV at he
      split at he
      · cases he; simp at h
      split at he
      · cases he; simp at h
      · cases hc : confl G.ls b (sortC L) with
        | none => rw [hc] at he; simp at he
        | some x => rw [hc] at he; simp at he; subst he; simp at h
  · intro h; rw [(landV_none h).1]

/-- Refs whose names rise. -/
def SrR (l : List (List UInt8 × Int)) : Prop := l.Pairwise fun a b => a.1 < b.1

theorem mem_mvR {n : List UInt8} {r : Int} {l : List (List UInt8 × Int)} {x : List UInt8 × Int} (h : x ∈ mvR n r l) : x = (n, r) ∨ x ∈ l := by
  induction l with
  | nil => simp [mvR] at h; exact .inl h
  | cons y l ih =>
    simp only [mvR] at h
    split at h
    · rcases List.mem_cons.1 h with h | h
      · exact .inr (by simp [h])
      · rcases ih h with h | h
        · exact .inl h
        · exact .inr (by simp [h])
    split at h
    · rcases List.mem_cons.1 h with h | h
      · exact .inl h
      · exact .inr (by simp [h])
    · rcases List.mem_cons.1 h with h | h
      · exact .inl h
      · exact .inr h

theorem mvR_length (n : List UInt8) (r : Int) (l : List (List UInt8 × Int)) : (mvR n r l).length ≤ l.length + 1 := by
  induction l with
  | nil => simp [mvR]
  | cons y l ih =>
    simp only [mvR]
    split
    · simp; omega
    split
    · simp
    · simp

theorem lt_or {a b : List UInt8} (h1 : ¬ a < b) (h2 : ¬ a = b) : b < a := by
  rcases Classical.em (b < a) with h | h
  · exact h
  · exact absurd (List.le_antisymm (List.not_lt.1 h) (List.not_lt.1 h1)) h2

theorem mvR_srt {n : List UInt8} {r : Int} {l : List (List UInt8 × Int)} (h : SrR l) : SrR (mvR n r l) := by
  induction l with
  | nil => simp [mvR, SrR]
  | cons y l ih =>
    obtain ⟨h1, h2⟩ := List.pairwise_cons.1 h
    simp only [mvR]
    split
    · rename_i hlt
      refine List.pairwise_cons.2 ⟨fun x hx => ?_, ih h2⟩
      rcases mem_mvR hx with rfl | hx
      · exact hlt
      · exact h1 x hx
    split
    · rename_i hne
      refine List.pairwise_cons.2 ⟨fun x hx => ?_, h2⟩
      have := h1 x hx
      rw [hne] at this
      exact this
    · rename_i h3 h4
      have h5 := lt_or h3 h4
      refine List.pairwise_cons.2 ⟨fun x hx => ?_, h⟩
      rcases List.mem_cons.1 hx with rfl | hx
      · exact h5
      · exact List.lt_trans h5 (h1 x hx)

theorem findL_mem {p : List UInt8} {L : List Lf} {y : Lf} (h : findL p L = some y) : y ∈ L ∧ y.p = p := by
  unfold findL at h
  have h1 := List.mem_of_find?_eq_some h
  have h2 := List.find?_some h
  simp at h2
  exact ⟨h1, h2.symm⟩

theorem putC_cons (r : Int) (ls : List Lf) (x : Ch) (l : List Ch) : putC r ls (x :: l) = putC r (ins ⟨x.p, x.d, r, x.g⟩ ls) l := rfl
theorem putC_app (r : Int) (ls : List Lf) (l m : List Ch) : putC r ls (l ++ m) = putC r (putC r ls l) m := by simp [putC]

theorem putC_all (P : Lf → Prop) {r : Int} {l : List Ch} : ∀ {ls : List Lf}, (∀ x ∈ ls, P x) → (∀ x ∈ l, P ⟨x.p, x.d, r, x.g⟩) → ∀ x ∈ putC r ls l, P x := by
  induction l with
  | nil => intro ls h _; exact h
  | cons y l ih =>
    intro ls h1 h2
    rw [putC_cons]
    refine ih (fun x hx => ?_) (fun x hx => h2 x (by simp [hx]))
    rcases mem_ins hx with rfl | hx
    · exact h2 y (by simp)
    · exact h1 x hx

theorem putC_srt {r : Int} {l : List Ch} : ∀ {ls : List Lf}, Srt ls → Srt (putC r ls l) := by
  induction l with
  | nil => intro ls h; exact h
  | cons y l ih => intro ls h; rw [putC_cons]; exact ih (ins_srt _ _ h)

theorem putC_length {r : Int} {l : List Ch} : ∀ {ls : List Lf}, (putC r ls l).length ≤ ls.length + l.length := by
  induction l with
  | nil => intro ls; simp [putC]
  | cons y l ih => intro ls; rw [putC_cons]; have h1 := @ih (ins ⟨y.p, y.d, r, y.g⟩ ls); have h2 := (ins_length ⟨y.p, y.d, r, y.g⟩ ls).1; simp; omega

/-- What every graph is that landings made. -/
structure Wf (G : Gr) : Prop where
  srt : Srt G.ls
  srs : SrR G.rs
  path : ∀ x ∈ G.ls, x.p.length ≤ 64
  many : G.ls.length ≤ 16 * G.cs.length
  refs : G.rs.length ≤ G.cs.length
  name : ∀ x ∈ G.rs, 0 < x.1.length ∧ x.1.length ≤ 24
  rev : ∀ x ∈ G.ls, 0 < x.r ∧ x.r ≤ (G.cs.length : Int)
  rrev : ∀ x ∈ G.rs, 0 < x.2 ∧ x.2 ≤ (G.cs.length : Int)
  com : ∀ c ∈ G.cs, CheckOK c.c ∧ (∀ x ∈ c.c, x.p.length ≤ 64) ∧ c.n.length ≤ 24 ∧ sortC c.c = c.c
  revs : ∀ i (h : i < G.cs.length), G.cs[i].r = (i : Int) + 1 ∧ 0 ≤ G.cs[i].b ∧ G.cs[i].b ≤ (i : Int)

theorem wf_void : Wf voidG := ⟨List.Pairwise.nil, List.Pairwise.nil, by simp [voidG], by simp [voidG], by simp [voidG], by simp [voidG], by simp [voidG], by simp [voidG], by simp [voidG], by simp [voidG]⟩

theorem check_perm {L M : List Ch} (h : L.Perm M) : CheckOK L ↔ CheckOK M := by
  rw [checkOK_iff, checkOK_iff, h.length_eq]
  exact ⟨fun ⟨a, b, c, d⟩ => ⟨a, b, fun x hx => c x (h.mem_iff.2 hx), (h.map Ch.p).nodup_iff.1 d⟩, fun ⟨a, b, c, d⟩ => ⟨a, b, fun x hx => c x (h.mem_iff.1 hx), (h.map Ch.p).nodup_iff.2 d⟩⟩

theorem sortC_check {L : List Ch} : CheckOK (sortC L) ↔ CheckOK L := (check_perm (sortC_alike L).perm).symm

theorem sortC_again (L : List Ch) : sortC (sortC L) = sortC L := (sortC_alike (sortC L)).symm.one (sortC_ris _) (sortC_ris _)

theorem check_short {L : List Ch} (h : CheckOK L) : ∀ x ∈ L, x.p.length ≤ 64 := fun x hx => by
  obtain ⟨_, _, h3, _⟩ := (checkOK_iff L).1 h
  have := h3 x hx
  simp only [mayB, Bool.and_eq_true, decide_eq_true_eq] at this
  exact normB_len this.1

theorem wordB_len {n : List UInt8} (h : wordB false n = true) : 0 < n.length ∧ n.length ≤ 24 := by
  simp only [wordB, Bool.and_eq_true, decide_eq_true_eq] at h
  exact ⟨h.1.1, h.1.2⟩

theorem wf_add {G : Gr} (h : Wf G) {b : Int} {n : List UInt8} {L : List Ch} (he : endV G b n L = none) : Wf (addG G (newC G b n L)) := by
  obtain ⟨h1, h2, h3⟩ := endV_none he
  obtain ⟨h4, h5, h6⟩ := badB_false h1
  have h7 := sortC_check.2 h4
  have h8 := check_short h7
  have h9 : (sortC L).length ≤ 16 := h7.2.1
  have h10 : n.length ≤ 24 := by
    rcases h5 with rfl | h5
    · simp
    · exact (wordB_len h5).2
  refine ⟨putC_srt h.srt, ?_, ?_, ?_, ?_, ?_, ?_, ?_, ?_, ?_⟩
  · simp only [addG, newC]
    cases n with
    | nil => exact h.srs
    | cons c m => exact mvR_srt h.srs
  · exact putC_all (fun x => x.p.length ≤ 64) h.path h8
  · have := @putC_length ((G.cs.length : Int) + 1) (sortC L) G.ls
    have := h.many
    simp only [addG, newC, List.length_append, List.length_singleton]
    omega
  · have := h.refs
    have := mvR_length n ((G.cs.length : Int) + 1) G.rs
    simp only [addG, newC, List.length_append, List.length_singleton]
    cases n with
    | nil => simp only [rsAdd]; omega
    | cons c m => simp only [rsAdd]; omega
  · intro x hx
    simp only [addG, newC] at hx
    cases n with
    | nil => exact h.name x hx
    | cons c m =>
      rcases mem_mvR hx with rfl | hx
      · rcases h5 with h5 | h5
        · cases h5
        · exact wordB_len h5
      · exact h.name x hx
  · refine putC_all (fun x => 0 < x.r ∧ x.r ≤ (((G.cs ++ [newC G b n L]).length : Nat) : Int)) (fun x hx => ?_) (fun x _ => ?_)
    · have := h.rev x hx; simp; omega
    · simp [newC]
  · intro x hx
    simp only [addG, newC] at hx ⊢
    simp only [List.length_append, List.length_singleton]
    cases n with
    | nil => have := h.rrev x hx; omega
    | cons c m =>
      rcases mem_mvR hx with rfl | hx
      · simp only; omega
      · have := h.rrev x hx; omega
  · intro c hc
    rcases List.mem_append.1 hc with hc | hc
    · exact h.com c hc
    · simp at hc; subst hc
      exact ⟨h7, h8, h10, sortC_again L⟩
  · intro i hi
    simp only [addG, List.length_append, List.length_singleton] at hi
    simp only [addG]
    by_cases hlt : i < G.cs.length
    · rw [List.getElem_append_left hlt]; exact h.revs i hlt
    · have : i = G.cs.length := by omega
      subst this
      simp [newC]; omega

theorem wf_land {G : Gr} (h : Wf G) (b : Int) (n : List UInt8) (L : List Ch) : Wf (landG G b n L) := by
  cases he : endV G b n L with
  | some v => rw [(landV_some he).2]; exact h
  | none => rw [(landV_none he).2]; exact wf_add h he

theorem land_length (G : Gr) (b : Int) (n : List UInt8) (L : List Ch) : G.cs.length ≤ (landG G b n L).cs.length ∧ (landG G b n L).cs.length ≤ G.cs.length + 1 := by
  cases he : endV G b n L with
  | some v => rw [(landV_some he).2]; omega
  | none => rw [(landV_none he).2]; simp [addG]

/-- What a path reads as. -/
def readV (G : Gr) (p : List UInt8) : Vd :=
  if normB p = some p then
    match findL p G.ls with
    | some y => if y.g = true then ⟨10, 0, p, 0⟩ else ⟨9, y.r, p, y.d⟩
    | none => ⟨10, 0, p, 0⟩
  else ⟨5, 0, [], 0⟩

/-- What Log tells. -/
def logL (cs : List Com) (f m : Int) : List Com := (cs.drop (f - 1).toNat).take (min m 32).toNat

/-- One commit is loaded. -/
noncomputable def stepL (G : Gr) (c : Com) : Option Gr :=
  if (landV G c.b c.n c.c).c = 2 ∧ (landV G c.b c.n c.c).r = c.r ∧ sortC c.c = c.c then some (landG G c.b c.n c.c) else none

noncomputable def loadL : Gr → List Com → Option Gr
  | G, [] => some G
  | G, c :: l => (stepL G c).bind fun G' => loadL G' l

theorem loadL_app (G : Gr) (l m : List Com) : loadL G (l ++ m) = (loadL G l).bind fun G' => loadL G' m := by
  induction l generalizing G with
  | nil => rfl
  | cons c l ih =>
    simp only [List.cons_append, loadL]
    cases stepL G c with
    | none => rfl
    | some G' => simpa using ih G'

theorem wf_step {G G' : Gr} {c : Com} (h : Wf G) (hs : stepL G c = some G') : Wf G' ∧ G'.cs = G.cs ++ [c] := by
  unfold stepL at hs
  split at hs
  · rename_i hc
    obtain ⟨h1, h2, h3⟩ := hc
    cases hs
    have he := (landV_code _ _ _ _).1 h1
    refine ⟨wf_land h _ _ _, ?_⟩
    rw [(landV_none he).1] at h2
    rw [(landV_none he).2]
    simp only [addG, newC, h3]
    simp only at h2
    rw [h2]
  · cases hs

/-- What landed would land again. -/
theorem step_again {G : Gr} {b : Int} {n : List UInt8} {L : List Ch} (he : endV G b n L = none) : stepL G (newC G b n L) = some (landG G b n L) := by
  have h1 : errC (sortC L) = errC L := by
    obtain ⟨h1, _, _⟩ := endV_none he
    obtain ⟨h4, _, _⟩ := badB_false h1
    rw [errC_zero.2 h4, errC_zero.2 (sortC_check.2 h4)]
  have h2 : endV G b n (sortC L) = endV G b n L := by
    unfold endV badB
    rw [h1, sortC_again]
  have h3 : landV G b n (sortC L) = landV G b n L := by unfold landV; rw [h2]
  have h4 : landG G b n (sortC L) = landG G b n L := by unfold landG newC; rw [h2, sortC_again]
  show (if (landV G b n (sortC L)).c = 2 ∧ (landV G b n (sortC L)).r = (G.cs.length : Int) + 1 ∧ sortC (sortC L) = sortC L then some (landG G b n (sortC L)) else none) = _
  rw [if_pos ⟨by rw [h3, (landV_none he).1], by rw [h3, (landV_none he).1], sortC_again L⟩, h4]

/-- Graphs that landings made of nothing. -/
inductive Reach : Gr → Prop
  | void : Reach voidG
  | land {G : Gr} (b : Int) (n : List UInt8) (L : List Ch) : Reach G → Reach (landG G b n L)

theorem Reach.wf {G : Gr} (h : Reach G) : Wf G := by
  induction h with
  | void => exact wf_void
  | land b n L _ ih => exact wf_land ih b n L

theorem Reach.load {G : Gr} (h : Reach G) : loadL voidG G.cs = some G := by
  induction h with
  | void => rfl
  | @land G b n L _ ih =>
    cases he : endV G b n L with
    | some v => rw [(landV_some he).2]; exact ih
    | none =>
      rw [show (landG G b n L).cs = G.cs ++ [newC G b n L] from by rw [(landV_none he).2]; rfl, loadL_app, ih]
      show (stepL G (newC G b n L)).bind _ = _
      rw [step_again he]; rfl

theorem wf_loads : ∀ {l : List Com} {G G' : Gr}, Wf G → loadL G l = some G' → Wf G' ∧ G'.cs = G.cs ++ l := by
  intro l
  induction l with
  | nil => intro G G' h hl; cases hl; exact ⟨h, by simp⟩
  | cons c l ih =>
    intro G G' h hl
    simp only [loadL] at hl
    cases hs : stepL G c with
    | none => rw [hs] at hl; cases hl
    | some G1 =>
      rw [hs] at hl
      obtain ⟨h1, h2⟩ := wf_step h hs
      obtain ⟨h3, h4⟩ := ih h1 hl
      exact ⟨h3, by rw [h4, h2]; simp⟩

/-- Each beginning loads. -/
theorem Reach.part {G : Gr} (h : Reach G) (k : Nat) : ∃ G', loadL voidG (G.cs.take k) = some G' ∧ Wf G' ∧ G'.cs = G.cs.take k := by
  have h1 := h.load
  rw [← List.take_append_drop k G.cs, loadL_app] at h1
  cases h2 : loadL voidG (G.cs.take k) with
  | none => rw [h2] at h1; cases h1
  | some G' =>
    obtain ⟨h3, h4⟩ := wf_loads wf_void h2
    exact ⟨G', rfl, h3, by simpa [voidG] using h4⟩

/-- What does not begin with the first revision does not load. -/
theorem load_later {G : Gr} (h : Wf G) {k : Nat} (hk : 0 < k) (hl : k < G.cs.length) : loadL voidG (G.cs.drop k) = none := by
  rw [List.drop_eq_getElem_cons hl]
  simp only [loadL]
  have h1 := (h.revs k hl).1
  have : stepL voidG G.cs[k] = none := by
    unfold stepL
    rw [if_neg]
    rintro ⟨h2, h3, _⟩
    rw [(landV_none ((landV_code _ _ _ _).1 h2)).1] at h3
    simp [voidG] at h3
    omega
  rw [this]; rfl

end Go.Proofs.YthhlfehdnefgoabGreat

/-
  Verdicts, sessions, tables of sessions, as lists.
-/
namespace Go.Proofs.YthhlfehdnefgoabGreat

/-- A verdict. -/
structure Vt where
  c : Int
  s : Int
  r : Int
  p : List UInt8
  d : Int
  k : List Com
  m : Int
deriving DecidableEq

/-- A session. -/
structure Se where
  i : Int
  q : Int
  n : List UInt8
  v : Vt
deriving DecidableEq

/-- A verdict of a code alone. -/
def vtC (c : Int) : Vt := ⟨c, 0, 0, [], 0, [], 0⟩

def se0 : Se := ⟨0, 0, [], vtC 0⟩

/-- Where the session with that number, of that name, stands. -/
def byI (id : Int) (L : List Se) : Option Nat := L.findIdx? fun x => decide (x.i = id)
def byN (n : List UInt8) (L : List Se) : Option Nat := L.findIdx? fun x => decide (x.n = n)

/-- Without the one at the place i. -/
def outL {α : Type} (L : List α) (i : Nat) : List α := L.take i ++ L.drop (i + 1)

/-- The one at the place i behind all others. -/
def useL (L : List Se) (i : Nat) : List Se := outL L i ++ [L.getD i se0]

def restI (id : Int) (L : List Se) : List Se := match byI id L with
  | some i => outL L i
  | none => L

def fitL (sz : Nat) (L : List Se) : List Se := if L.length = sz then L.drop 1 else L

def openL (sz : Nat) (n : List UInt8) (id : Int) (L : List Se) : List Se := match byN n L with
  | some i => useL L i
  | none => fitL sz (restI id L) ++ [⟨id, 0, n, vtC 0⟩]

def openI (n : List UInt8) (id : Int) (L : List Se) : Int := match byN n L with
  | some i => (L.getD i se0).i
  | none => id

def askL (id : Int) (L : List Se) : List Se := match byI id L with
  | some i => useL L i
  | none => L

/-- What a session is told that asks its seq. -/
def tellV (seq : Int) (x : Se) : Vt × Bool :=
  if seq < 1 then (vtC 5, true) else if seq < x.q then (vtC 7, true) else if seq = x.q then (x.v, true) else (vtC 0, false)

def askV (id seq : Int) (L : List Se) : Vt × Bool := match byI id L with
  | some i => tellV seq (L.getD i se0)
  | none => (vtC 6, true)

/-- The place of what Done changes. -/
def doneI (id seq : Int) (L : List Se) : Option Nat := match byI id L with
  | some i => if (L.getD i se0).q < seq then some i else none
  | none => none

def doneS (seq : Int) (v : Vt) (x : Se) : Se := ⟨x.i, seq, x.n, v⟩

def doneL (id seq : Int) (v : Vt) (L : List Se) : List Se := match doneI id seq L with
  | some i => L.set i (doneS seq v (L.getD i se0))
  | none => L

theorem byI_lt {id : Int} {L : List Se} {i : Nat} (h : byI id L = some i) : ∃ hi : i < L.length, L[i].i = id := by
  unfold byI at h
  rw [List.findIdx?_eq_some_iff_getElem] at h
  obtain ⟨hi, h1, _⟩ := h
  exact ⟨hi, by simpa using h1⟩

theorem byN_lt {n : List UInt8} {L : List Se} {i : Nat} (h : byN n L = some i) : ∃ hi : i < L.length, L[i].n = n := by
  unfold byN at h
  rw [List.findIdx?_eq_some_iff_getElem] at h
  obtain ⟨hi, h1, _⟩ := h
  exact ⟨hi, by simpa using h1⟩

theorem outL_length {α : Type} {L : List α} {i : Nat} (h : i < L.length) : (outL L i).length = L.length - 1 := by
  unfold outL; simp; omega

theorem map_outL {α β : Type} (f : α → β) (L : List α) (i : Nat) : (outL L i).map f = outL (L.map f) i := by
  unfold outL; simp

theorem getD_get {L : List Se} {i : Nat} (h : i < L.length) : L.getD i se0 = L[i] := by simp [List.getD, h]

/-- What may be written: lists and texts that are not too great for memory. -/
def okC (x : Ch) : Prop := x.p.length ≤ 140737488351232
def okK (x : Com) : Prop := x.n.length ≤ 140737488351232 ∧ x.c.length ≤ 4398046510976 ∧ ∀ y ∈ x.c, okC y
def okV (v : Vt) : Prop := v.p.length ≤ 140737488351232 ∧ v.k.length ≤ 2513169434843 ∧ ∀ x ∈ v.k, okK x
def okS (x : Se) : Prop := x.n.length ≤ 140737488351232 ∧ okV x.v

theorem okV_vtC (c : Int) : okV (vtC c) := ⟨by simp [vtC], by simp [vtC], by simp [vtC]⟩

theorem mem_outL {α : Type} {L : List α} {i : Nat} {x : α} (h : x ∈ outL L i) : x ∈ L := by
  unfold outL at h
  rcases List.mem_append.1 h with h | h
  · exact List.mem_of_mem_take h
  · exact List.mem_of_mem_drop h

theorem mem_useL {L : List Se} {i : Nat} (hi : i < L.length) {x : Se} (h : x ∈ useL L i) : x ∈ L := by
  unfold useL at h
  rcases List.mem_append.1 h with h | h
  · exact mem_outL h
  · simp [List.getD, hi] at h; subst h; exact List.getElem_mem hi

theorem useL_length {L : List Se} {i : Nat} (hi : i < L.length) : (useL L i).length = L.length := by
  unfold useL; rw [List.length_append, outL_length hi]; simp; omega

theorem restI_length (id : Int) (L : List Se) : (restI id L).length ≤ L.length := by
  unfold restI
  cases h : byI id L with
  | none => simp
  | some i => obtain ⟨hi, _⟩ := byI_lt h; simp only; rw [outL_length hi]; omega

theorem fitL_length {sz : Nat} {L : List Se} (h : L.length ≤ sz) (h1 : 1 ≤ sz) : (fitL sz L).length + 1 ≤ sz := by
  unfold fitL; split
  · simp; omega
  · omega

theorem openL_length {sz : Nat} {n : List UInt8} {id : Int} {L : List Se} (h : L.length ≤ sz) (h1 : 1 ≤ sz) : (openL sz n id L).length ≤ sz := by
  unfold openL
  cases hb : byN n L with
  | some i => obtain ⟨hi, _⟩ := byN_lt hb; simp only; rw [useL_length hi]; exact h
  | none =>
    simp only
    have h2 := restI_length id L
    have := fitL_length (sz := sz) (L := restI id L) (by omega) h1
    simp; omega

theorem askL_length {id : Int} {L : List Se} : (askL id L).length = L.length := by
  unfold askL
  cases hb : byI id L with
  | some i => obtain ⟨hi, _⟩ := byI_lt hb; simp only; rw [useL_length hi]
  | none => rfl

theorem doneL_length {id seq : Int} {v : Vt} {L : List Se} : (doneL id seq v L).length = L.length := by
  unfold doneL
  cases doneI id seq L with
  | some i => simp
  | none => rfl

theorem ok_openL {sz : Nat} {n : List UInt8} {id : Int} {L : List Se} (h : ∀ x ∈ L, okS x) (hn : n.length ≤ 140737488351232) : ∀ x ∈ openL sz n id L, okS x := by
  intro x hx
  unfold openL at hx
  cases hb : byN n L with
  | some i => rw [hb] at hx; obtain ⟨hi, _⟩ := byN_lt hb; exact h x (mem_useL hi hx)
  | none =>
    rw [hb] at hx
    rcases List.mem_append.1 hx with hx | hx
    · have : x ∈ restI id L := by
        unfold fitL at hx; split at hx
        · exact List.mem_of_mem_drop hx
        · exact hx
      unfold restI at this
      cases hc : byI id L with
      | some i => rw [hc] at this; exact h x (mem_outL this)
      | none => rw [hc] at this; exact h x this
    · simp at hx; subst hx; exact ⟨hn, okV_vtC 0⟩

theorem ok_askL {id : Int} {L : List Se} (h : ∀ x ∈ L, okS x) : ∀ x ∈ askL id L, okS x := by
  intro x hx
  unfold askL at hx
  cases hb : byI id L with
  | some i => rw [hb] at hx; obtain ⟨hi, _⟩ := byI_lt hb; exact h x (mem_useL hi hx)
  | none => rw [hb] at hx; exact h x hx

theorem doneI_lt {id seq : Int} {L : List Se} {i : Nat} (h : doneI id seq L = some i) : ∃ hi : i < L.length, L[i].i = id ∧ L[i].q < seq ∧ byI id L = some i := by
  unfold doneI at h
  cases hb : byI id L with
  | none => rw [hb] at h; cases h
  | some j =>
    rw [hb] at h
    obtain ⟨hj, h1⟩ := byI_lt hb
    simp only [getD_get hj] at h
    split at h
    · cases h; exact ⟨hj, h1, by assumption, rfl⟩
    · cases h

theorem ok_doneL {id seq : Int} {v : Vt} {L : List Se} (h : ∀ x ∈ L, okS x) (hv : okV v) : ∀ x ∈ doneL id seq v L, okS x := by
  intro x hx
  unfold doneL at hx
  cases hb : doneI id seq L with
  | none => rw [hb] at hx; exact h x hx
  | some i =>
    rw [hb] at hx
    obtain ⟨hi, _⟩ := doneI_lt hb
    rcases List.mem_or_eq_of_mem_set hx with hx | hx
    · exact h x hx
    · subst hx
      rw [getD_get hi]
      exact ⟨(h _ (List.getElem_mem hi)).1, hv⟩

end Go.Proofs.YthhlfehdnefgoabGreat

/-
  Tables in which no two sessions have one number, or one name.
-/
namespace Go.Proofs.YthhlfehdnefgoabGreat

def Uniq (L : List Se) : Prop := (L.map fun x => x.i).Nodup ∧ (L.map fun x => x.n).Nodup

theorem uniq_nil : Uniq [] := ⟨by simp, by simp⟩

theorem outL_sub {α : Type} (L : List α) (i : Nat) : (outL L i).Sublist L := by
  unfold outL
  have h : (L.take i ++ L.drop (i + 1)).Sublist (L.take i ++ L.drop i) := List.Sublist.append_left (by
    rw [← List.drop_drop]
    exact List.drop_sublist _ _) _
  rwa [List.take_append_drop] at h

theorem uniq_sub {L M : List Se} (h : Uniq L) (hs : M.Sublist L) : Uniq M := ⟨h.1.sublist (hs.map _), h.2.sublist (hs.map _)⟩

theorem use_perm {L : List Se} {i : Nat} (hi : i < L.length) : (useL L i).Perm L := by
  unfold useL outL
  rw [getD_get hi]
  have h1 : L = L.take i ++ L[i] :: L.drop (i + 1) := by
    rw [← List.drop_eq_getElem_cons hi, List.take_append_drop]
  conv => rhs; rw [h1]
  rw [List.append_assoc]
  refine List.Perm.append_left _ ?_
  exact (List.perm_append_comm (l₁ := L.drop (i + 1)) (l₂ := [L[i]]))

theorem uniq_use {L : List Se} (h : Uniq L) {i : Nat} (hi : i < L.length) : Uniq (useL L i) :=
  ⟨((use_perm hi).map _).nodup_iff.2 h.1, ((use_perm hi).map _).nodup_iff.2 h.2⟩

theorem uniq_ask {L : List Se} (h : Uniq L) (id : Int) : Uniq (askL id L) := by
  unfold askL
  cases hb : byI id L with
  | some i => obtain ⟨hi, _⟩ := byI_lt hb; exact uniq_use h hi
  | none => exact h

theorem byI_none {id : Int} {L : List Se} (h : byI id L = none) : ∀ x ∈ L, x.i ≠ id := by
  unfold byI at h
  rw [List.findIdx?_eq_none_iff] at h
  intro x hx
  simpa using h x hx

theorem byN_none {n : List UInt8} {L : List Se} (h : byN n L = none) : ∀ x ∈ L, x.n ≠ n := by
  unfold byN at h
  rw [List.findIdx?_eq_none_iff] at h
  intro x hx
  simpa using h x hx

theorem parts_at {L : List Se} {i : Nat} (hi : i < L.length) : L = L.take i ++ L[i] :: L.drop (i + 1) := by
  rw [← List.drop_eq_getElem_cons hi, List.take_append_drop]

theorem rest_ne {L : List Se} (h : Uniq L) (id : Int) : ∀ x ∈ restI id L, x.i ≠ id := by
  unfold restI
  cases hb : byI id L with
  | none => exact byI_none hb
  | some i =>
    obtain ⟨hi, he⟩ := byI_lt hb
    intro x hx
    have h1 := h.1
    rw [parts_at hi, List.map_append, List.map_cons, List.nodup_append] at h1
    obtain ⟨_, h3, h4⟩ := h1
    rcases List.mem_append.1 hx with hx | hx
    · have := h4 x.i (List.mem_map.2 ⟨x, hx, rfl⟩) L[i].i (by simp)
      rw [he] at this; exact this
    · have h5 := (List.nodup_cons.1 h3).1
      intro e
      exact h5 (List.mem_map.2 ⟨x, hx, by rw [e, he]⟩)

theorem rest_sub (id : Int) (L : List Se) : (restI id L).Sublist L := by
  unfold restI
  cases byI id L with
  | none => exact List.Sublist.refl _
  | some i => exact outL_sub L i

theorem fit_sub (sz : Nat) (L : List Se) : (fitL sz L).Sublist L := by
  unfold fitL
  split
  · exact List.drop_sublist _ _
  · exact List.Sublist.refl _

theorem uniq_open {L : List Se} (h : Uniq L) (sz : Nat) (n : List UInt8) (id : Int) : Uniq (openL sz n id L) := by
  unfold openL
  cases hb : byN n L with
  | some i => obtain ⟨hi, _⟩ := byN_lt hb; exact uniq_use h hi
  | none =>
    have hs := (fit_sub sz (restI id L))
    have h1 := uniq_sub h (hs.trans (rest_sub id L))
    refine ⟨?_, ?_⟩
    · simp only [List.map_append, List.nodup_append]
      refine ⟨h1.1, by simp, fun a ha b hb => ?_⟩
      obtain ⟨x, hx, rfl⟩ := List.mem_map.1 ha
      rw [show b = id by simpa using hb]
      exact rest_ne h id x (hs.subset hx)
    · simp only [List.map_append, List.nodup_append]
      refine ⟨h1.2, by simp, fun a ha b hb2 => ?_⟩
      obtain ⟨x, hx, rfl⟩ := List.mem_map.1 ha
      rw [show b = n by simpa using hb2]
      exact byN_none hb x ((hs.trans (rest_sub id L)).subset hx)

theorem uniq_done {L : List Se} (h : Uniq L) (id seq : Int) (v : Vt) : Uniq (doneL id seq v L) := by
  unfold doneL
  cases hb : doneI id seq L with
  | none => exact h
  | some i =>
    obtain ⟨hi, _⟩ := doneI_lt hb
    simp only [getD_get hi]
    refine ⟨?_, ?_⟩
    · rw [List.map_set]
      have e : (L.map fun x => x.i).set i (doneS seq v L[i]).i = L.map fun x => x.i := by
        have : (doneS seq v L[i]).i = (L.map fun x => x.i)[i]'(by simpa using hi) := by simp [doneS]
        rw [this, List.set_getElem_self]
      rw [e]; exact h.1
    · rw [List.map_set]
      have e : (L.map fun x => x.n).set i (doneS seq v L[i]).n = L.map fun x => x.n := by
        have : (doneS seq v L[i]).n = (L.map fun x => x.n)[i]'(by simpa using hi) := by simp [doneS]
        rw [this, List.set_getElem_self]
      rw [e]; exact h.2

theorem uniq_ne {L : List Se} (h : Uniq L) {i j : Nat} (hi : i < L.length) (hj : j < L.length) (hne : j < i) : (L[i].i == L[j].i) = false ∧ ((L[i].n) = (L[j].n)) = False := by
  have h1 := (List.pairwise_iff_getElem.1 h.1) j i (by simpa using hj) (by simpa using hi) hne
  have h2 := (List.pairwise_iff_getElem.1 h.2) j i (by simpa using hj) (by simpa using hi) hne
  simp at h1 h2
  exact ⟨by simpa using fun e => h1 e.symm, eq_false fun e => h2 e.symm⟩

/-- The number of the last one of that name among the first k; else id. -/
def wasI (n : List UInt8) (id : Int) (L : List Se) : Int := L.foldl (fun a x => if x.n = n then x.i else a) id

theorem was_none {n : List UInt8} {L : List Se} (h : ∀ x ∈ L, x.n ≠ n) (id : Int) : wasI n id L = id := by
  unfold wasI
  induction L generalizing id with
  | nil => rfl
  | cons x L ih =>
    rw [List.foldl_cons, if_neg (h x (by simp))]
    exact ih (fun y hy => h y (by simp [hy])) id

theorem was_app (n : List UInt8) (id : Int) (L M : List Se) : wasI n id (L ++ M) = wasI n (wasI n id L) M := by
  unfold wasI; rw [List.foldl_append]

theorem was_open {L : List Se} (h : Uniq L) (n : List UInt8) (id : Int) : wasI n id L = openI n id L := by
  unfold openI
  cases hb : byN n L with
  | none => exact was_none (byN_none hb) id
  | some i =>
    obtain ⟨hi, he⟩ := byN_lt hb
    simp only [getD_get hi]
    have h1 := h.2
    rw [parts_at hi, List.map_append, List.map_cons, List.nodup_append] at h1
    obtain ⟨_, h3, h4⟩ := h1
    conv => lhs; rw [parts_at hi]
    rw [was_app, was_none (L := L.take i) (fun x hx => by
      have := h4 x.n (List.mem_map.2 ⟨x, hx, rfl⟩) L[i].n (by simp)
      rw [he] at this; exact this)]
    have h5 := (List.nodup_cons.1 h3).1
    show wasI n (if L[i].n = n then L[i].i else id) (L.drop (i + 1)) = _
    rw [if_pos he]
    refine was_none (fun x hx e => h5 (List.mem_map.2 ⟨x, hx, by rw [e, he]⟩)) _

theorem was_next {n : List UInt8} {id : Int} {L : List Se} {k : Nat} (hk : k < L.length) : wasI n id (L.take (k + 1)) = if L[k].n = n then L[k].i else wasI n id (L.take k) := by
  rw [List.take_succ_eq_append_getElem hk, was_app]; rfl

end Go.Proofs.YthhlfehdnefgoabGreat

/-
  Sessions that may be loaded.
-/
namespace Go.Proofs.YthhlfehdnefgoabGreat

/-- No number and no name twice, and no number of a request below 0. -/
def LdOk (L : List Se) : Prop := Uniq L ∧ ∀ x ∈ L, 0 ≤ x.q

theorem ldOk_nil : LdOk [] := ⟨uniq_nil, fun x hx => by cases hx⟩

theorem ldOk_sub {L M : List Se} (h : LdOk L) (hs : M.Sublist L) : LdOk M := ⟨uniq_sub h.1 hs, fun x hx => h.2 x (hs.subset hx)⟩

theorem none_byI {id : Int} {L : List Se} (h : ∀ x ∈ L, x.i ≠ id) : byI id L = none := by
  unfold byI
  rw [List.findIdx?_eq_none_iff]
  intro x hx
  simpa using h x hx

theorem none_byN {n : List UInt8} {L : List Se} (h : ∀ x ∈ L, x.n ≠ n) : byN n L = none := by
  unfold byN
  rw [List.findIdx?_eq_none_iff]
  intro x hx
  simpa using h x hx

theorem ldOk_push {M : List Se} {x : Se} (h : LdOk M) (h0 : 0 ≤ x.q) (h1 : ∀ y ∈ M, y.i ≠ x.i) (h2 : ∀ y ∈ M, y.n ≠ x.n) : LdOk (M ++ [x]) := by
  refine ⟨⟨?_, ?_⟩, fun y hy => ?_⟩
  · rw [List.map_append, List.nodup_append]
    refine ⟨h.1.1, by simp, fun a ha b hb => ?_⟩
    obtain ⟨y, hy, rfl⟩ := List.mem_map.1 ha
    rw [show b = x.i by simpa using hb]
    exact h1 y hy
  · rw [List.map_append, List.nodup_append]
    refine ⟨h.1.2, by simp, fun a ha b hb => ?_⟩
    obtain ⟨y, hy, rfl⟩ := List.mem_map.1 ha
    rw [show b = x.n by simpa using hb]
    exact h2 y hy
  · rcases List.mem_append.1 hy with hy | hy
    · exact h.2 y hy
    · rw [show y = x by simpa using hy]; exact h0

theorem ldOk_next {L : List Se} {j : Nat} {x : Se} (hx : L[j]? = some x) (h : LdOk (L.take j)) (h0 : 0 ≤ x.q) (h1 : ∀ y ∈ L.take j, y.i ≠ x.i) (h2 : ∀ y ∈ L.take j, y.n ≠ x.n) : LdOk (L.take (j + 1)) := by
  obtain ⟨hj, rfl⟩ := List.getElem?_eq_some_iff.1 hx
  rw [List.take_succ_eq_append_getElem hj]
  exact ldOk_push h h0 h1 h2

theorem take_next {L : List Se} {j : Nat} {x : Se} (hx : L[j]? = some x) : L.take (j + 1) = L.take j ++ [x] := by
  obtain ⟨hj, rfl⟩ := List.getElem?_eq_some_iff.1 hx
  exact List.take_succ_eq_append_getElem hj

/-- What is wrong with the one at the place j is wrong with all. -/
theorem ldOk_q {L : List Se} {j : Nat} {x : Se} (hx : L[j]? = some x) (h : x.q < 0) : ¬ LdOk L := fun hl => by
  have := hl.2 x (List.mem_of_getElem? hx)
  omega

theorem ldOk_i {L : List Se} {j k : Nat} {x y : Se} (hx : L[j]? = some x) (hy : L[k]? = some y) (hk : k < j) (h : y.i = x.i) : ¬ LdOk L := fun hl => by
  obtain ⟨hj, rfl⟩ := List.getElem?_eq_some_iff.1 hx
  obtain ⟨hk2, rfl⟩ := List.getElem?_eq_some_iff.1 hy
  have h2 := (uniq_ne hl.1 hj hk2 hk).1
  simp [h] at h2

theorem ldOk_n {L : List Se} {j k : Nat} {x y : Se} (hx : L[j]? = some x) (hy : L[k]? = some y) (hk : k < j) (h : y.n = x.n) : ¬ LdOk L := fun hl => by
  obtain ⟨hj, rfl⟩ := List.getElem?_eq_some_iff.1 hx
  obtain ⟨hk2, rfl⟩ := List.getElem?_eq_some_iff.1 hy
  have h2 := (uniq_ne hl.1 hj hk2 hk).2
  rw [h] at h2; simp at h2

theorem take_at {L : List Se} {j k : Nat} (hj : j ≤ L.length) (hk : k < (L.take j).length) : L[k]? = some (L.take j)[k] ∧ k < j := by
  have h : k < j := by simp at hk; omega
  refine ⟨?_, h⟩
  rw [List.getElem_take, List.getElem?_eq_getElem]

theorem bad_byI {L : List Se} {j k : Nat} {x : Se} (hx : L[j]? = some x) (h : byI x.i (L.take j) = some k) : ¬ LdOk L := by
  obtain ⟨hk, he⟩ := byI_lt h
  obtain ⟨hj, _⟩ := List.getElem?_eq_some_iff.1 hx
  obtain ⟨h1, h2⟩ := take_at (Nat.le_of_lt hj) hk
  exact ldOk_i hx h1 h2 he

theorem bad_byN {L : List Se} {j k : Nat} {x : Se} (hx : L[j]? = some x) (h : byN x.n (L.take j) = some k) : ¬ LdOk L := by
  obtain ⟨hk, he⟩ := byN_lt h
  obtain ⟨hj, _⟩ := List.getElem?_eq_some_iff.1 hx
  obtain ⟨h1, h2⟩ := take_at (Nat.le_of_lt hj) hk
  exact ldOk_n hx h1 h2 he

theorem ldOk_use {L : List Se} (h : LdOk L) {i : Nat} (hi : i < L.length) : LdOk (useL L i) :=
  ⟨uniq_use h.1 hi, fun x hx => h.2 x (mem_useL hi hx)⟩

theorem ldOk_ask {L : List Se} (h : LdOk L) (id : Int) : LdOk (askL id L) := by
  refine ⟨uniq_ask h.1 id, fun x hx => ?_⟩
  unfold askL at hx
  cases hb : byI id L with
  | some i => rw [hb] at hx; obtain ⟨hi, _⟩ := byI_lt hb; exact h.2 x (mem_useL hi hx)
  | none => rw [hb] at hx; exact h.2 x hx

theorem ldOk_open {L : List Se} (h : LdOk L) (sz : Nat) (n : List UInt8) (id : Int) : LdOk (openL sz n id L) := by
  refine ⟨uniq_open h.1 sz n id, fun x hx => ?_⟩
  unfold openL at hx
  cases hb : byN n L with
  | some i => rw [hb] at hx; obtain ⟨hi, _⟩ := byN_lt hb; exact h.2 x (mem_useL hi hx)
  | none =>
    rw [hb] at hx
    rcases List.mem_append.1 hx with hx | hx
    · exact h.2 x (((fit_sub sz (restI id L)).trans (rest_sub id L)).subset hx)
    · simp at hx; subst hx; exact Int.le_refl 0

theorem ldOk_done {L : List Se} (h : LdOk L) (id seq : Int) (v : Vt) : LdOk (doneL id seq v L) := by
  refine ⟨uniq_done h.1 id seq v, fun x hx => ?_⟩
  unfold doneL at hx
  cases hb : doneI id seq L with
  | none => rw [hb] at hx; exact h.2 x hx
  | some i =>
    rw [hb] at hx
    obtain ⟨hi, _, hq, _⟩ := doneI_lt hb
    rcases List.mem_or_eq_of_mem_set hx with hx | hx
    · exact h.2 x hx
    · subst hx
      have := h.2 _ (List.getElem_mem hi)
      show 0 ≤ seq
      omega

end Go.Proofs.YthhlfehdnefgoabGreat

/-
  Epochs, members, sets of replicas: what is said of them without memory.
-/
namespace Go.Proofs.YthhlfehdnefgoabGreat

/-- An epoch: from which slot on, and who. -/
structure Ep where
  f : Int
  m : List Int
deriving DecidableEq

/-- Members may be. -/
def May (m : List Int) : Prop := m ≠ [] ∧ m.Pairwise (· < ·) ∧ ∀ x ∈ m, 0 ≤ x ∧ x < 15

instance (m : List Int) : Decidable (May m) := by unfold May; infer_instance

/-- The numbers of a list, as a set. -/
def setB (m : List Int) (k : Nat) : Bool := decide ((k : Int) ∈ m)

/-- A set, with one number set. -/
def updB (S : Nat → Bool) (q : Nat) (v : Bool) (k : Nat) : Bool := if k = q then v else S k

/-- The numbers of a set, rising. -/
def told (S : Nat → Bool) : List Int := ((List.range 15).filter S).map fun k : Nat => (k : Int)

/-- What a change of a set is refused by; 0. -/
def chgE (S : Nat → Bool) (q : Nat) (add : Bool) : Int := if add && S q then 9 else if !add && !S q then 8 else if told (updB S q add) = [] then 1 else 0

theorem rise_one : ∀ {l m : List Int}, l.Pairwise (· < ·) → m.Pairwise (· < ·) → (∀ x, x ∈ l ↔ x ∈ m) → l = m
  | [], [], _, _, _ => rfl
  | [], y :: m, _, _, h => by have := (h y).2 (by simp); simp at this
  | x :: l, [], _, _, h => by have := (h x).1 (by simp); simp at this
  | x :: l, y :: m, hl, hm, h => by
    rw [List.pairwise_cons] at hl hm
    have hxy : x = y := by
      have h1 := (h x).1 (by simp)
      have h2 := (h y).2 (by simp)
      rcases List.mem_cons.1 h1 with h1 | h1
      · exact h1
      · rcases List.mem_cons.1 h2 with h2 | h2
        · exact h2.symm
        · have a := hm.1 x h1
          have b := hl.1 y h2
          omega
    subst hxy
    rw [rise_one hl.2 hm.2 fun z => ⟨fun hz => by
      rcases List.mem_cons.1 ((h z).1 (List.mem_cons_of_mem _ hz)) with e | e
      · have := hl.1 z hz; omega
      · exact e, fun hz => by
      rcases List.mem_cons.1 ((h z).2 (List.mem_cons_of_mem _ hz)) with e | e
      · have := hm.1 z hz; omega
      · exact e⟩]

theorem told_rise (S : Nat → Bool) : (told S).Pairwise (· < ·) := by
  unfold told
  rw [List.pairwise_map]
  exact (List.pairwise_lt_range.filter _).imp (fun h => by omega)

theorem mem_told {S : Nat → Bool} {x : Int} : x ∈ told S ↔ ∃ k : Nat, x = k ∧ k < 15 ∧ S k = true := by
  unfold told
  simp only [List.mem_map, List.mem_filter, List.mem_range]
  exact ⟨fun ⟨k, ⟨h1, h2⟩, h3⟩ => ⟨k, h3.symm, h1, h2⟩, fun ⟨k, h1, h2, h3⟩ => ⟨k, ⟨h2, h3⟩, h1.symm⟩⟩

theorem told_len (S : Nat → Bool) : (told S).length ≤ 15 := by
  unfold told
  rw [List.length_map]
  exact Nat.le_trans (List.length_filter_le _ _) (by simp)

theorem told_may {m : List Int} (h : May m) : told (setB m) = m :=
  rise_one (told_rise _) h.2.1 fun x => by
    rw [mem_told]
    refine ⟨fun ⟨k, hk, _, h1⟩ => by rw [hk]; simpa [setB] using h1, fun hx => ?_⟩
    have := h.2.2 x hx
    exact ⟨x.toNat, by omega, by omega, by simp only [setB, decide_eq_true_eq]; rw [show ((x.toNat : Nat) : Int) = x by omega]; exact hx⟩

theorem may_told {S : Nat → Bool} (h : told S ≠ []) : May (told S) := ⟨h, told_rise S, fun x hx => by
  obtain ⟨k, rfl, h1, _⟩ := mem_told.1 hx
  omega⟩

theorem told_congr {S T : Nat → Bool} (h : ∀ k, k < 15 → S k = T k) : told S = told T := by
  unfold told
  rw [List.filter_congr (fun k hk => by rw [h k (by simpa using hk)])]

theorem setB_told {S : Nat → Bool} {k : Nat} (h : k < 15) : setB (told S) k = S k := by
  unfold setB
  rw [Bool.eq_iff_iff, decide_eq_true_eq, mem_told]
  exact ⟨fun ⟨j, e, _, h2⟩ => by rw [show k = j by omega]; exact h2, fun h1 => ⟨k, rfl, h, h1⟩⟩

theorem may_len {m : List Int} (h : May m) : m.length ≤ 15 := by rw [← told_may h]; exact told_len _

/-- How many epochs are from a slot or sooner. -/
def cntL (L : List Ep) (z : Int) : Nat := (L.filter fun x => decide (x.f ≤ z)).length

/-- The place of a slot's epoch. -/
def plc (L : List Ep) (z : Int) : Nat := cntL L z - 1

def RiseL (L : List Ep) : Prop := L.Pairwise fun a b => a.f < b.f

/-- Epochs may be. -/
def OkL (L : List Ep) : Prop := L ≠ [] ∧ RiseL L ∧ ∀ x ∈ L, May x.m ∧ 0 ≤ x.f ∧ x.f ≤ 1099511627776

theorem cnt_le (L : List Ep) (z : Int) : cntL L z ≤ L.length := List.length_filter_le _ _

theorem cnt_iff : ∀ {L : List Ep} (_ : RiseL L) (z : Int) (i : Nat) (h : i < L.length), L[i].f ≤ z ↔ i < cntL L z
  | [], _, _, i, h => by simp at h
  | x :: L, hr, z, i, h => by
    obtain ⟨h1, h2⟩ := List.pairwise_cons.1 hr
    unfold cntL
    by_cases hx : x.f ≤ z
    · rw [List.filter_cons_of_pos (by simpa using hx), List.length_cons]
      cases i with
      | zero => simpa using hx
      | succ i =>
        have := cnt_iff h2 z i (by simpa using h)
        simp only [List.getElem_cons_succ]
        rw [this]
        unfold cntL
        omega
    · have hn : ∀ y ∈ x :: L, ¬ (decide (y.f ≤ z) = true) := by
        intro y hy
        rcases List.mem_cons.1 hy with rfl | hy
        · simpa using hx
        · have := h1 y hy
          simp; omega
      rw [List.filter_eq_nil_iff.2 hn]
      simp only [List.length_nil, Nat.not_lt_zero, iff_false]
      exact fun hle => hn _ (List.getElem_mem h) (by simpa using hle)

theorem plc_lt {L : List Ep} (h : L ≠ []) (z : Int) : plc L z < L.length := by
  have := cnt_le L z
  have := List.length_pos_iff.2 h
  unfold plc
  omega

/-- The members of a slot. -/
def atL (L : List Ep) (z : Int) : List Int := (L.getD (plc L z) ⟨0, []⟩).m

/-- Cut at a slot. -/
def cutL (L : List Ep) (z : Int) : List Ep := L.drop (plc L z)

/-- Whoever is a member in any of them. -/
def uniB (L : List Ep) (k : Nat) : Bool := L.any fun x => setB x.m k

def lastE (L : List Ep) : Ep := L.getLastD ⟨0, []⟩

/-- What a change is refused by; 0. -/
def chE (al : Int) (L : List Ep) (z q : Int) (add : Bool) : Int :=
  if z < 0 ∨ 1099511627776 - al < z ∨ ¬ (0 ≤ q ∧ q < 15) then 1 else if z < (lastE L).f then 12 else chgE (setB (lastE L).m) q.toNat add

/-- The epochs behind a change. -/
def chL (al : Int) (L : List Ep) (z q : Int) (add : Bool) : List Ep :=
  if chE al L z q add = 0 then L ++ [⟨z + al, told (updB (setB (lastE L).m) q.toNat add)⟩] else L

theorem okL_new {m : List Int} (h : May m) : OkL [⟨0, m⟩] := ⟨by simp, List.pairwise_singleton _ _, fun x hx => by simp at hx; subst hx; exact ⟨h, by simp, by simp⟩⟩

theorem okL_cut {L : List Ep} (h : OkL L) (z : Int) : OkL (cutL L z) :=
  ⟨fun e => by
    have := plc_lt h.1 z
    have h2 : (cutL L z).length = 0 := by rw [e]; rfl
    unfold cutL at h2
    rw [List.length_drop] at h2
    omega, h.2.1.sublist (List.drop_sublist _ _), fun x hx => h.2.2 x (List.mem_of_mem_drop hx)⟩

theorem lastE_mem {L : List Ep} (h : L ≠ []) : lastE L ∈ L := by
  unfold lastE
  rw [List.getLastD_eq_getLast?, List.getLast?_eq_some_getLast h]
  exact List.getLast_mem h

theorem chgE_zero {S : Nat → Bool} {q : Nat} {add : Bool} (h : chgE S q add = 0) : told (updB S q add) ≠ [] ∧ S q = !add := by
  unfold chgE at h
  cases hs : S q <;> cases add <;> simp [hs] at h ⊢ <;> exact h

theorem okL_ch {al : Int} {L : List Ep} (hal : 1 ≤ al ∧ al ≤ 8) (h : OkL L) (z q : Int) (add : Bool) : OkL (chL al L z q add) := by
  unfold chL
  split
  · rename_i h0
    unfold chE at h0
    split at h0
    · cases h0
    · rename_i h1
      split at h0
      · cases h0
      · rename_i h2
        obtain ⟨h3, _⟩ := chgE_zero h0
        refine ⟨by simp, ?_, ?_⟩
        · unfold RiseL
          rw [List.pairwise_append]
          refine ⟨h.2.1, List.pairwise_singleton _ _, fun x hx y hy => ?_⟩
          simp at hy
          subst hy
          show x.f < z + al
          have hl : x.f ≤ (lastE L).f := by
            have h5 := h.2.1
            obtain ⟨i, hi, rfl⟩ := List.getElem_of_mem hx
            have e : lastE L = L[L.length - 1]'(by omega) := by
              unfold lastE
              rw [List.getLastD_eq_getLast?, List.getLast?_eq_some_getLast h.1, Option.getD_some, List.getLast_eq_getElem]
            rw [e]
            by_cases hlt : i < L.length - 1
            · exact Int.le_of_lt (List.pairwise_iff_getElem.1 h5 i (L.length - 1) hi (by omega) hlt)
            · have : i = L.length - 1 := by omega
              subst this
              exact Int.le_refl _
          omega
        · intro x hx
          rcases List.mem_append.1 hx with hx | hx
          · exact h.2.2 x hx
          · simp at hx
            subst hx
            refine ⟨may_told h3, ?_, ?_⟩ <;> simp <;> omega
  · exact h

end Go.Proofs.YthhlfehdnefgoabGreat

/-
  How many of some numbers are among others.
-/
namespace Go.Proofs.YthhlfehdnefgoabGreat

/-- Each number once, where it stands first. -/
def nubL (l : List Int) : List Int := l.foldl (fun a x => if x ∈ a then a else a ++ [x]) []

theorem nub_snoc (l : List Int) (x : Int) : nubL (l ++ [x]) = if x ∈ nubL l then nubL l else nubL l ++ [x] := by
  unfold nubL
  rw [List.foldl_append]
  rfl

theorem snoc_ind {p : List Int → Prop} (h0 : p []) (h1 : ∀ l x, p l → p (l ++ [x])) (l : List Int) : p l := by
  have : ∀ k, p (l.take k) := by
    intro k
    induction k with
    | zero => simpa using h0
    | succ k ih =>
      by_cases hk : k < l.length
      · rw [List.take_succ_eq_append_getElem hk]; exact h1 _ _ ih
      · rw [List.take_of_length_le (by omega)]; rwa [List.take_of_length_le (by omega)] at ih
  have h := this l.length
  rwa [List.take_length] at h

theorem mem_nub (l : List Int) : ∀ x, x ∈ nubL l ↔ x ∈ l := by
  refine snoc_ind (p := fun l => ∀ x, x ∈ nubL l ↔ x ∈ l) (by simp [nubL]) (fun l y ih x => ?_) l
  rw [nub_snoc]
  split
  · rename_i h
    rw [ih, List.mem_append, List.mem_singleton]
    exact ⟨.inl, fun h' => h'.elim id (fun e => by subst e; exact (ih _).1 h)⟩
  · rw [List.mem_append, ih, List.mem_append]

theorem nub_nodup (l : List Int) : (nubL l).Nodup := by
  refine snoc_ind (p := fun l => (nubL l).Nodup) (by simp [nubL]) (fun l y ih => ?_) l
  rw [nub_snoc]
  split
  · exact ih
  · rename_i h
    rw [List.nodup_append]
    exact ⟨ih, by simp, fun a ha b hb e => by simp at hb; subst hb; subst e; exact h ha⟩

/-- How many different numbers of l are in m. -/
def cntM (m l : List Int) : Nat := ((nubL l).filter fun x => decide (x ∈ m)).length

theorem cnt_snoc (m l : List Int) (x : Int) : cntM m (l ++ [x]) = cntM m l + (if x ∈ m ∧ x ∉ l then 1 else 0) := by
  unfold cntM
  rw [nub_snoc]
  by_cases h : x ∈ nubL l
  · rw [if_pos h, if_neg (fun h' => h'.2 ((mem_nub l x).1 h))]
    rfl
  · have h' : x ∉ l := fun h' => h ((mem_nub l x).2 h')
    rw [if_neg h, List.filter_append, List.length_append]
    by_cases hm : x ∈ m <;> simp [hm, h']

theorem len_le : ∀ {l m : List Int}, l.Nodup → (∀ x ∈ l, x ∈ m) → l.length ≤ m.length
  | [], _, _, _ => Nat.zero_le _
  | x :: l, m, hd, hs => by
    obtain ⟨h1, h2⟩ := List.nodup_cons.1 hd
    have hx := hs x (by simp)
    have ih := len_le (m := m.erase x) h2 (fun y hy => (List.mem_erase_of_ne (show y ≠ x from fun e => h1 (by rw [← e]; exact hy))).2 (hs y (by simp [hy])))
    rw [List.length_erase_of_mem hx] at ih
    have := List.length_pos_of_mem hx
    simp only [List.length_cons]
    omega

theorem cnt_comm (m l : List Int) : cntM m l = cntM l m := by
  have key : ∀ a b : List Int, cntM a b ≤ cntM b a := fun a b =>
    len_le ((nub_nodup b).filter _) (fun x hx => by
      simp only [List.mem_filter, decide_eq_true_eq, mem_nub] at hx ⊢
      exact ⟨hx.2, hx.1⟩)
  exact Nat.le_antisymm (key m l) (key l m)

theorem nub_same {l : List Int} (h : l.Nodup) : nubL l = l := by
  refine snoc_ind (p := fun l => l.Nodup → nubL l = l) (fun _ => rfl) (fun l x ih hd => ?_) l h
  rw [List.nodup_append] at hd
  rw [nub_snoc, ih hd.1, if_neg (fun hx => hd.2.2 x hx x (by simp) rfl)]

/-- Most of them. -/
def mostB (m l : List Int) : Bool := decide (m.length / 2 + 1 ≤ cntM m l)

theorem two_parts (p q : Int → Bool) : ∀ m : List Int, (∀ x ∈ m, ¬ (p x = true ∧ q x = true)) → (m.filter p).length + (m.filter q).length ≤ m.length
  | [], _ => by simp
  | x :: m, h => by
    have ih := two_parts p q m (fun y hy => h y (by simp [hy]))
    have hx := h x (by simp)
    cases hp : p x <;> cases hq : q x <;> simp [hp, hq] at hx ⊢ <;> omega

/-- Two that are most have one in common. -/
theorem most_meet {m a b : List Int} (hd : m.Nodup) (ha : mostB m a = true) (hb : mostB m b = true) : ∃ x ∈ m, x ∈ a ∧ x ∈ b := by
  unfold mostB at ha hb
  rw [decide_eq_true_eq, cnt_comm] at ha hb
  unfold cntM at ha hb
  rw [nub_same hd] at ha hb
  by_cases h : ∃ x ∈ m, x ∈ a ∧ x ∈ b
  · exact h
  · have := two_parts (fun x => decide (x ∈ a)) (fun x => decide (x ∈ b)) m (fun x hx hp => h ⟨x, hx, by simpa using hp⟩)
    omega

theorem may_nodup {m : List Int} (h : May m) : m.Nodup := h.2.1.imp (fun h => by omega)

end Go.Proofs.YthhlfehdnefgoabGreat

/-
  What a change makes of members; who the members of a slot are.
-/
namespace Go.Proofs.YthhlfehdnefgoabGreat

theorem upd_mem {m : List Int} {q : Nat} {add : Bool} (hq : q < 15) : decide ((q : Int) ∈ told (updB (setB m) q add)) = add := by
  have h : (q : Int) ∈ told (updB (setB m) q add) ↔ add = true := by
    rw [mem_told]
    refine ⟨fun ⟨k, e, _, h⟩ => ?_, fun h => ⟨q, rfl, hq, by simpa [updB] using h⟩⟩
    obtain rfl : q = k := by omega
    simpa [updB] using h
  rw [Bool.eq_iff_iff, decide_eq_true_eq]
  exact h

theorem told_nodup (S : Nat → Bool) : (told S).Nodup := (told_rise S).imp (fun h => by omega)

theorem len_add {m : List Int} {q : Nat} (hm : May m) (hq : q < 15) (h : setB m q = false) : (told (updB (setB m) q true)).length = m.length + 1 := by
  have hn : (q : Int) ∉ m := by simpa [setB] using h
  have h1 : ((q : Int) :: m).Nodup := List.nodup_cons.2 ⟨hn, may_nodup hm⟩
  refine Nat.le_antisymm (len_le (m := (q : Int) :: m) (told_nodup _) fun x hx => ?_) (len_le h1 fun x hx => ?_)
  · obtain ⟨k, rfl, _, h2⟩ := mem_told.1 hx
    by_cases e : k = q
    · subst e; simp
    · simp only [updB, if_neg e, setB, decide_eq_true_eq] at h2
      simp [h2]
  · rw [mem_told]
    rcases List.mem_cons.1 hx with rfl | hx
    · exact ⟨q, rfl, hq, by simp [updB]⟩
    · have h2 := hm.2.2 x hx
      refine ⟨x.toNat, by omega, by omega, ?_⟩
      by_cases e : x.toNat = q
      · simp [updB, e]
      · simp only [updB, if_neg e, setB, decide_eq_true_eq]
        rw [show ((x.toNat : Nat) : Int) = x by omega]
        exact hx

theorem len_drop {m : List Int} {q : Nat} : (told (updB (setB m) q false)).length ≤ m.length :=
  len_le (told_nodup _) fun x hx => by
    obtain ⟨k, rfl, _, h2⟩ := mem_told.1 hx
    by_cases e : k = q
    · simp [updB, e] at h2
    · simpa [updB, e, setB] using h2

theorem at_one (m : List Int) (z : Int) : atL [⟨0, m⟩] z = m := by
  unfold atL plc cntL
  by_cases h : 0 ≤ z <;> simp [h]

theorem at_ahead {m m2 : List Int} {f z : Int} (h : 0 ≤ z) (h2 : z < f) : atL [⟨0, m⟩, ⟨f, m2⟩] z = m := by
  unfold atL plc cntL
  have : ¬ f ≤ z := by omega
  simp [h, this]

theorem at_behind {m m2 : List Int} {f z : Int} (h : 0 ≤ z) (h2 : f ≤ z) : atL [⟨0, m⟩, ⟨f, m2⟩] z = m2 := by
  unfold atL plc cntL
  simp [h, h2]

end Go.Proofs.YthhlfehdnefgoabGreat

/-
  What is so of epochs that changes made one by one; what a cut keeps.
-/
namespace Go.Proofs.YthhlfehdnefgoabGreat

theorem len_drop1 {m : List Int} {q : Nat} (hm : May m) (hq : q < 15) (h : setB m q = true) : m.length = (told (updB (setB m) q false)).length + 1 := by
  have hin : (q : Int) ∈ m := by simpa [setB] using h
  have hn : (q : Int) ∉ told (updB (setB m) q false) := by
    have := upd_mem (m := m) (add := false) hq
    simpa using this
  have h1 : ((q : Int) :: told (updB (setB m) q false)).Nodup := List.nodup_cons.2 ⟨hn, told_nodup _⟩
  refine Nat.le_antisymm (len_le (m := (q : Int) :: told (updB (setB m) q false)) (may_nodup hm) fun x hx => ?_) (len_le h1 fun x hx => ?_)
  · by_cases e : x = q
    · simp [e]
    · have h2 := hm.2.2 x hx
      refine List.mem_cons_of_mem _ (mem_told.2 ⟨x.toNat, by omega, by omega, ?_⟩)
      have e' : ¬ x.toNat = q := by omega
      simp only [updB, if_neg e', setB, decide_eq_true_eq]
      rw [show ((x.toNat : Nat) : Int) = x by omega]
      exact hx
  · rcases List.mem_cons.1 hx with rfl | hx
    · exact hin
    · obtain ⟨k, rfl, _, h2⟩ := mem_told.1 hx
      by_cases e : k = q
      · simp [updB, e] at h2
      · simpa [updB, e, setB] using h2

/-- One change at a time, by one member, two slots later. -/
def StepL (L : List Ep) : Prop := ∀ i (h : i + 1 < L.length), ((L[i + 1].m.length : Int) - (L[i]'(by omega)).m.length = 1 ∨ (L[i + 1].m.length : Int) - (L[i]'(by omega)).m.length = -1) ∧ (L[i]'(by omega)).f + 2 ≤ L[i + 1].f

theorem lastE_get {L : List Ep} (h : L ≠ []) : lastE L = L[L.length - 1]'(by have := List.length_pos_iff.2 h; omega) := by
  unfold lastE
  rw [List.getLastD_eq_getLast?, List.getLast?_eq_some_getLast h, Option.getD_some, List.getLast_eq_getElem]

theorem step_ch {L : List Ep} (hok : OkL L) (hs : StepL L) (z q : Int) (add : Bool) : StepL (chL 2 L z q add) := by
  unfold chL
  split
  · rename_i h0
    unfold chE at h0
    split at h0
    · cases h0
    · rename_i h1
      split at h0
      · cases h0
      · rename_i h2
        have hq15 : q.toNat < 15 := by omega
        obtain ⟨_, hS⟩ := chgE_zero h0
        have hmay := (hok.2.2 _ (lastE_mem hok.1)).1
        have hlast := lastE_get hok.1
        have hpos := List.length_pos_iff.2 hok.1
        intro i hi
        rw [List.length_append] at hi
        simp at hi
        by_cases hlt : i + 1 < L.length
        · have := hs i hlt
          rw [List.getElem_append_left hlt, List.getElem_append_left (by omega)]
          exact this
        · have e : i = L.length - 1 := by omega
          subst e
          rw [List.getElem_append_right (by omega), List.getElem_append_left (by omega), ← hlast]
          simp only [show L.length - 1 + 1 - L.length = 0 by omega, List.getElem_cons_zero]
          refine ⟨?_, by omega⟩
          cases add with
          | true =>
            have := len_add hmay hq15 (by simpa using hS)
            left
            omega
          | false =>
            have := len_drop1 hmay hq15 (by simpa using hS)
            right
            omega
  · exact hs

theorem ch_len (al : Int) (L : List Ep) (z q : Int) (add : Bool) : (chL al L z q add).length ≤ L.length + 1 := by
  unfold chL
  split <;> simp

theorem cnt_split (L : List Ep) (k : Nat) (z : Int) : cntL L z = cntL (L.take k) z + cntL (L.drop k) z := by
  unfold cntL
  rw [← List.length_append, ← List.filter_append, List.take_append_drop]

theorem cnt_mono (L : List Ep) {y z : Int} (h : y ≤ z) : cntL L y ≤ cntL L z := by
  unfold cntL
  induction L with
  | nil => simp
  | cons x L ih =>
    by_cases h1 : x.f ≤ y
    · have h2 : x.f ≤ z := by omega
      simp [h1, h2, ih]
    · by_cases h2 : x.f ≤ z
      · simp [h1, h2]; omega
      · simp [h1, h2, ih]

/-- From the cut on the members are who they were. -/
theorem at_cut {L : List Ep} (hok : OkL L) {c z : Int} (h : c ≤ z) : atL (cutL L c) z = atL L z := by
  unfold cutL
  have hc := cnt_le L c
  have hm := cnt_mono L h
  by_cases h0 : cntL L c = 0
  · have : plc L c = 0 := by unfold plc; omega
    rw [this, List.drop_zero]
  · have hk : plc L c = cntL L c - 1 := rfl
    have ht : cntL (L.take (plc L c)) z = plc L c := by
      unfold cntL
      rw [List.filter_eq_self.2, List.length_take]
      · omega
      · intro x hx
        obtain ⟨i, hi, rfl⟩ := List.getElem_of_mem hx
        rw [List.length_take] at hi
        rw [List.getElem_take]
        have := (cnt_iff hok.2.1 z i (by omega)).2 (by omega)
        simpa using this
    have hs := cnt_split L (plc L c) z
    rw [ht] at hs
    unfold atL
    have e : plc (L.drop (plc L c)) z = plc L z - plc L c := by
      show cntL (L.drop (plc L c)) z - 1 = (cntL L z - 1) - plc L c
      omega
    rw [e, List.getD_eq_getElem?_getD, List.getD_eq_getElem?_getD, List.getElem?_drop]
    congr 3
    show plc L c + (cntL L z - 1 - plc L c) = cntL L z - 1
    omega

theorem at_mem {M : List Ep} (h : M ≠ []) (z : Int) : ∃ x ∈ M, atL M z = x.m := by
  have h1 := plc_lt h z
  refine ⟨M[plc M z], List.getElem_mem h1, ?_⟩
  unfold atL
  rw [List.getD_eq_getElem?_getD, List.getElem?_eq_getElem h1]
  rfl

end Go.Proofs.YthhlfehdnefgoabGreat

/-
  Machines, requests, verdicts: what is said of them without memory.
-/
namespace Go.Proofs.YthhlfehdnefgoabGreat

/-- A request. -/
structure Rq where
  k : Int
  n : List UInt8
  s : Int
  q : Int
  b : Int
  f : List UInt8
  c : List Ch
  p : List UInt8
  fr : Int
  mn : Int
  mb : Int

/-- A machine: how many are applied, the graph, the sessions, the epochs. -/
structure Ma where
  a : Int
  g : Gr
  s : List Se
  e : List Ep

/-- A verdict of a graph. -/
def vdT (v : Vd) : Vt := ⟨v.c, 0, v.r, v.p, v.d, [], 0⟩

/-- What is looked at. -/
def peekT (G : Gr) (r : Rq) : Vt :=
  if r.k = 3 then ⟨8, 0, G.cs.length, [], 0, [], 0⟩
  else if r.k = 4 then vdT (readV G r.p)
  else if r.k = 5 then (if r.fr < 1 ∨ r.mn < 1 then vtC 5 else ⟨11, 0, 0, [], 0, logL G.cs r.fr r.mn, 0⟩)
  else vtC 5

/-- The verdict of what is new. -/
noncomputable def doV (al : Int) (m : Ma) (r : Rq) : Vt :=
  if r.k = 2 then vdT (landV m.g r.b r.f r.c)
  else if r.k = 6 ∨ r.k = 7 then (if chE al m.e m.a r.mb (decide (r.k = 6)) = 0 then ⟨if r.k = 6 then 12 else 13, 0, 0, [], 0, [], r.mb⟩ else ⟨14, 0, 0, [], 0, [], r.mb⟩)
  else peekT m.g r

noncomputable def doG (m : Ma) (r : Rq) : Gr := if r.k = 2 then landG m.g r.b r.f r.c else m.g

def doE (al : Int) (m : Ma) (r : Rq) : List Ep := if r.k = 6 ∨ r.k = 7 then chL al m.e m.a r.mb (decide (r.k = 6)) else m.e

/-- Is it done anew? -/
def newQ (m : Ma) (r : Rq) : Bool := decide (r.k ≠ 0) && decide (r.k ≠ 1) && !(askV r.s r.q m.s).2

noncomputable def verV (al : Int) (m : Ma) (r : Rq) : Vt :=
  if r.k = 0 then vtC 0
  else if r.k = 1 then (if wordB false r.n = true then ⟨1, openI r.n (m.a + 1) m.s, 0, [], 0, [], 0⟩ else vtC 5)
  else if (askV r.s r.q m.s).2 = true then (askV r.s r.q m.s).1 else doV al m r

noncomputable def verS (al : Int) (sz : Nat) (m : Ma) (r : Rq) : List Se :=
  if r.k = 0 then m.s
  else if r.k = 1 then (if wordB false r.n = true then openL sz r.n (m.a + 1) m.s else m.s)
  else if (askV r.s r.q m.s).2 = true then askL r.s m.s else doneL r.s r.q (doV al m r) (askL r.s m.s)

noncomputable def verG (m : Ma) (r : Rq) : Gr := if newQ m r = true then doG m r else m.g

def verE (al : Int) (m : Ma) (r : Rq) : List Ep := if newQ m r = true then doE al m r else m.e

/-- What Apply tells, and leaves. -/
noncomputable def apV (al : Int) (m : Ma) (r : Rq) : Vt := if 1099511627776 ≤ m.a then vtC 5 else verV al m r

noncomputable def apM (al : Int) (sz : Nat) (m : Ma) (r : Rq) : Ma :=
  if 1099511627776 ≤ m.a then m else ⟨m.a + 1, verG m r, verS al sz m r, cutL (verE al m r) (m.a + 1)⟩

/-- What is so of each machine. -/
structure MaOk (sz : Nat) (m : Ma) : Prop where
  a0 : 0 ≤ m.a
  a1 : m.a ≤ 1099511627776
  g : Reach m.g
  s : LdOk m.s
  sl : m.s.length ≤ sz
  e : OkL m.e
  ec : cutL m.e m.a = m.e

theorem Reach.doG {m : Ma} (h : Reach m.g) (r : Rq) : Reach (doG m r) := by
  unfold Proofs.YthhlfehdnefgoabGreat.doG
  split
  · exact .land _ _ _ h
  · exact h

theorem okL_do {al : Int} (hal : 1 ≤ al ∧ al ≤ 8) {m : Ma} (h : OkL m.e) (r : Rq) : OkL (doE al m r) := by
  unfold doE
  split
  · exact okL_ch hal h _ _ _
  · exact h

theorem cut_cut {L : List Ep} (h : OkL L) (z : Int) : cutL (cutL L z) z = cutL L z := by
  have h1 : plc (cutL L z) z = 0 := by
    have hs := cnt_split L (plc L z) z
    have hle := cnt_le L z
    unfold plc
    show cntL (L.drop (plc L z)) z - 1 = 0
    by_cases h0 : cntL L z = 0
    · have : plc L z = 0 := by unfold plc; omega
      rw [this, List.drop_zero]
      omega
    · have ht : cntL (L.take (plc L z)) z = plc L z := by
        unfold cntL
        rw [List.filter_eq_self.2, List.length_take]
        · have : plc L z = cntL L z - 1 := rfl
          omega
        · intro x hx
          obtain ⟨i, hi, rfl⟩ := List.getElem_of_mem hx
          rw [List.length_take] at hi
          rw [List.getElem_take]
          have := (cnt_iff h.2.1 z i (by omega)).2 (by have : plc L z = cntL L z - 1 := rfl; omega)
          simpa using this
      have : plc L z = cntL L z - 1 := rfl
      omega
  show (cutL L z).drop (plc (cutL L z) z) = _
  rw [h1, List.drop_zero]

theorem maOk_ap {al : Int} (hal : 1 ≤ al ∧ al ≤ 8) {sz : Nat} (hsz : 1 ≤ sz) {m : Ma} (h : MaOk sz m) (r : Rq) : MaOk sz (apM al sz m r) := by
  unfold apM
  split
  · exact h
  · have h0 := h.a0
    have hE : OkL (verE al m r) := by
      unfold verE
      split
      · exact okL_do hal h.e r
      · exact h.e
    refine ⟨by show 0 ≤ m.a + 1; omega, by show m.a + 1 ≤ _; omega, ?_, ?_, ?_, okL_cut hE _, cut_cut hE _⟩
    · show Reach (verG m r)
      unfold verG
      split
      · exact h.g.doG r
      · exact h.g
    · show LdOk (verS al sz m r)
      unfold verS
      split
      · exact h.s
      · split
        · split
          · exact ldOk_open h.s _ _ _
          · exact h.s
        · split
          · exact ldOk_ask h.s _
          · exact ldOk_done (ldOk_ask h.s _) _ _ _
    · show (verS al sz m r).length ≤ sz
      unfold verS
      split
      · exact h.sl
      · split
        · split
          · exact openL_length h.sl hsz
          · exact h.sl
        · split
          · rw [askL_length]; exact h.sl
          · rw [doneL_length, askL_length]; exact h.sl

theorem ap_eq {al : Int} {sz : Nat} {m : Ma} {r : Rq} (h : m.a < 1099511627776) : apM al sz m r = ⟨m.a + 1, verG m r, verS al sz m r, cutL (verE al m r) (m.a + 1)⟩ := by
  unfold apM
  rw [if_neg (by omega)]

theorem ap_a {al : Int} {sz : Nat} {m : Ma} {r : Rq} (h : m.a < 1099511627776) : (apM al sz m r).a = m.a + 1 := by
  unfold apM
  rw [if_neg (by omega)]

theorem ap_head {al : Int} {sz : Nat} {m : Ma} (r : Rq) : (apM al sz m r).g.cs.length ≤ m.g.cs.length + 1 ∧ m.g.cs.length ≤ (apM al sz m r).g.cs.length := by
  unfold apM
  split
  · omega
  · show (verG m r).cs.length ≤ _ ∧ _ ≤ (verG m r).cs.length
    unfold verG doG
    split
    · split
      · have := land_length m.g r.b r.f r.c; omega
      · omega
    · omega

theorem ap_el {al : Int} {sz : Nat} {m : Ma} (r : Rq) : (apM al sz m r).e.length ≤ m.e.length + 1 := by
  have h1 : (verE al m r).length ≤ m.e.length + 1 := by
    unfold verE doE
    split
    · split
      · exact ch_len _ _ _ _ _
      · omega
    · omega
  unfold apM
  split
  · omega
  · show (cutL (verE al m r) (m.a + 1)).length ≤ _
    unfold cutL
    rw [List.length_drop]
    omega

/-- A machine that is new. -/
def newM (l : List Int) : Ma := ⟨0, voidG, [], [⟨0, l⟩]⟩

theorem maOk_new {l : List Int} (hl : May l) (sz : Nat) : MaOk sz (newM l) :=
  ⟨Int.le_refl _, by show (0 : Int) ≤ _; omega, .void, ldOk_nil, Nat.zero_le _, okL_new hl, rfl⟩

theorem ask_found {L : List Se} {id seq : Int} {i : Nat} (h : byI id L = some i) : askV id seq L = tellV seq (L.getD i se0) ∧ askL id L = useL L i := by
  unfold askV askL
  rw [h]
  exact ⟨rfl, rfl⟩

theorem ask_lost {L : List Se} {id seq : Int} (h : byI id L = none) : askV id seq L = (vtC 6, true) ∧ askL id L = L := by
  unfold askV askL
  rw [h]
  exact ⟨rfl, rfl⟩

theorem uniq_byI {L : List Se} (h : Uniq L) {x : Se} (hx : x ∈ L) : ∃ i, byI x.i L = some i ∧ L.getD i se0 = x := by
  cases hb : byI x.i L with
  | none => exact absurd rfl (byI_none hb x hx)
  | some i =>
    obtain ⟨hi, e⟩ := byI_lt hb
    refine ⟨i, rfl, ?_⟩
    rw [getD_get hi]
    obtain ⟨j, hj, rfl⟩ := List.getElem_of_mem hx
    by_cases hij : i = j
    · subst hij; rfl
    · have h1 := h.1
      rw [List.Nodup, List.pairwise_iff_getElem] at h1
      rcases Nat.lt_or_gt_of_ne hij with hlt | hlt
      · exact absurd (by rw [List.getElem_map, List.getElem_map]; exact e) (h1 i j (by simpa using hi) (by simpa using hj) hlt)
      · exact absurd (by rw [List.getElem_map, List.getElem_map]; exact e.symm) (h1 j i (by simpa using hj) (by simpa using hi) hlt)

theorem use_mem {L : List Se} {i : Nat} (hi : i < L.length) {x : Se} : x ∈ useL L i ↔ x ∈ L := (use_perm hi).mem_iff

/-- Whoever asked, and was told, is told the same again. -/
theorem ask_again {L : List Se} (h : Uniq L) (id seq : Int) : askV id seq (askL id L) = askV id seq L := by
  cases hb : byI id L with
  | none => rw [(ask_lost (seq := seq) hb).2]
  | some i =>
    obtain ⟨hi, e⟩ := byI_lt hb
    obtain ⟨h1, h2⟩ := ask_found (seq := seq) hb
    rw [h2, h1]
    have hm : L[i] ∈ useL L i := (use_mem hi).2 (List.getElem_mem hi)
    obtain ⟨j, hj, ej⟩ := uniq_byI (uniq_use h hi) hm
    rw [e] at hj
    rw [(ask_found (seq := seq) hj).1, ej, getD_get hi]

/-- What is done is told again. -/
theorem ask_done {L : List Se} (h : Uniq L) {id seq : Int} (h0 : (askV id seq L).2 = false) (v : Vt) : askV id seq (doneL id seq v (askL id L)) = (v, true) := by
  cases hb : byI id L with
  | none => rw [(ask_lost (seq := seq) hb).1] at h0; cases h0
  | some i =>
    obtain ⟨hi, e⟩ := byI_lt hb
    obtain ⟨h1, h2⟩ := ask_found (seq := seq) hb
    rw [h1, getD_get hi] at h0
    have hq : 1 ≤ seq ∧ L[i].q < seq := by
      unfold tellV at h0
      split at h0
      · cases h0
      · split at h0
        · cases h0
        · split at h0
          · cases h0
          · omega
    have hU := uniq_use h hi
    have hm : L[i] ∈ useL L i := (use_mem hi).2 (List.getElem_mem hi)
    obtain ⟨j, hj, ej⟩ := uniq_byI hU hm
    rw [e] at hj
    obtain ⟨hjl, _⟩ := byI_lt hj
    rw [h2]
    have hd : doneI id seq (useL L i) = some j := by unfold doneI; rw [hj]; simp only; rw [ej, if_pos hq.2]
    have hl : doneL id seq v (useL L i) = (useL L i).set j (doneS seq v L[i]) := by unfold doneL; rw [hd]; simp only; rw [ej]
    have hx : doneS seq v L[i] ∈ doneL id seq v (useL L i) := by rw [hl]; exact List.mem_set hjl _
    obtain ⟨k, hk, ek⟩ := uniq_byI (uniq_done hU id seq v) hx
    rw [show (doneS seq v L[i]).i = id from e] at hk
    rw [(ask_found (seq := seq) hk).1, ek]
    unfold tellV doneS
    rw [if_neg (by omega), if_neg (by simp), if_pos rfl]

theorem uni_cut {L : List Ep} {z : Int} {k : Nat} (h : uniB (cutL L z) k = true) : uniB L k = true := by
  unfold uniB at *
  rw [List.any_eq_true] at *
  obtain ⟨x, hx, h1⟩ := h
  exact ⟨x, List.mem_of_mem_drop hx, h1⟩

theorem told_le {S T : Nat → Bool} (h : ∀ k, S k = true → T k = true) : (told S).length ≤ (told T).length := by
  unfold told
  rw [List.length_map, List.length_map]
  refine List.Sublist.length_le ?_
  have : (List.range 15).filter S = ((List.range 15).filter T).filter S := by
    rw [List.filter_filter]
    apply List.filter_congr
    intro k _
    cases hs : S k with
    | false => simp
    | true => simp [h k hs]
  rw [this]
  exact List.filter_sublist

/-- P8.4: asked again it has the same verdict, and nothing of the graph changes. -/
theorem once {al : Int} {sz : Nat} {m : Ma} (h : MaOk sz m) (r : Rq) (h0 : r.k ≠ 0) (h1 : r.k ≠ 1) (ha : m.a + 1 < 1099511627776) :
    apV al (apM al sz m r) r = apV al m r ∧ (apM al sz (apM al sz m r) r).g = (apM al sz m r).g ∧ (told (uniB (apM al sz (apM al sz m r) r).e)).length ≤ (told (uniB (apM al sz m r).e)).length := by
  have e1 : apM al sz m r = ⟨m.a + 1, verG m r, verS al sz m r, cutL (verE al m r) (m.a + 1)⟩ := by unfold apM; rw [if_neg (by omega)]
  have hv : verV al m r = (askV r.s r.q (verS al sz m r)).1 ∧ (askV r.s r.q (verS al sz m r)).2 = true := by
    unfold verV verS
    rw [if_neg h0, if_neg h1, if_neg h0, if_neg h1]
    cases hs : (askV r.s r.q m.s).2 with
    | true =>
      rw [if_pos rfl, if_pos rfl, ask_again h.s.1]
      exact ⟨rfl, hs⟩
    | false =>
      rw [if_neg (by simp), if_neg (by simp), ask_done h.s.1 hs]
      exact ⟨rfl, rfl⟩
  have hn : newQ (apM al sz m r) r = false := by
    unfold newQ
    rw [e1]
    simp only
    rw [hv.2]
    simp
  refine ⟨?_, ?_, ?_⟩
  · have : apV al (apM al sz m r) r = verV al (apM al sz m r) r := by unfold apV; rw [if_neg (by rw [e1]; show ¬ _ ≤ m.a + 1; omega)]
    rw [this]
    have h2 : apV al m r = verV al m r := by unfold apV; rw [if_neg (by omega)]
    rw [h2]
    unfold verV
    rw [if_neg h0, if_neg h1, if_neg h0, if_neg h1, e1]
    simp only
    rw [if_pos hv.2, ← hv.1]
    unfold verV
    rw [if_neg h0, if_neg h1]
  · have : (apM al sz (apM al sz m r) r).g = verG (apM al sz m r) r := by
      rw [ap_eq (m := apM al sz m r) (by rw [e1]; show m.a + 1 < _; omega)]
    rw [this]
    unfold verG
    rw [hn]
    rfl
  · have : (apM al sz (apM al sz m r) r).e = cutL (apM al sz m r).e ((apM al sz m r).a + 1) := by
      rw [ap_eq (m := apM al sz m r) (by rw [e1]; show m.a + 1 < _; omega)]
      show cutL (verE al (apM al sz m r) r) _ = _
      unfold verE
      rw [hn]
      rfl
    rw [this]
    exact told_le fun k hk => uni_cut hk

end Go.Proofs.YthhlfehdnefgoabGreat

/-
  What follows of machines: who lands, who looks, who is expired, who the members are; how great things are.
-/
namespace Go.Proofs.YthhlfehdnefgoabGreat

theorem all_use {P : Se → Prop} {L : List Se} {i : Nat} (hi : i < L.length) (h : ∀ x ∈ L, P x) : ∀ x ∈ useL L i, P x := fun x hx => h x ((use_mem hi).1 hx)

theorem all_ask {P : Se → Prop} {L : List Se} (h : ∀ x ∈ L, P x) (id : Int) : ∀ x ∈ askL id L, P x := by
  cases hb : byI id L with
  | none => rw [(ask_lost (seq := 0) hb).2]; exact h
  | some i => obtain ⟨hi, _⟩ := byI_lt hb; rw [(ask_found (seq := 0) hb).2]; exact all_use hi h

theorem all_open {P : Se → Prop} {L : List Se} (h : ∀ x ∈ L, P x) (sz : Nat) (n : List UInt8) (id : Int) (h1 : P ⟨id, 0, n, vtC 0⟩) : ∀ x ∈ openL sz n id L, P x := by
  unfold openL
  cases hb : byN n L with
  | some i => obtain ⟨hi, _⟩ := byN_lt hb; exact all_use hi h
  | none =>
    intro x hx
    rcases List.mem_append.1 hx with hx | hx
    · exact h x ((rest_sub id L).subset ((fit_sub sz _).subset hx))
    · rw [show x = _ by simpa using hx]; exact h1

theorem all_done {P : Se → Prop} {L : List Se} (h : ∀ x ∈ L, P x) (id seq : Int) (v : Vt) (h1 : ∀ x ∈ L, P (doneS seq v x)) : ∀ x ∈ doneL id seq v L, P x := by
  unfold doneL
  cases hb : doneI id seq L with
  | none => exact h
  | some i =>
    obtain ⟨hi, _⟩ := doneI_lt hb
    intro x hx
    rcases List.mem_or_eq_of_mem_set hx with hx | hx
    · exact h x hx
    · rw [hx, getD_get hi]; exact h1 _ (List.getElem_mem hi)

theorem ask_told {L : List Se} {id seq : Int} (h : (askV id seq L).2 = true) : (∃ x ∈ L, (askV id seq L).1 = x.v) ∨ (askV id seq L).1 = vtC 5 ∨ (askV id seq L).1 = vtC 6 ∨ (askV id seq L).1 = vtC 7 := by
  cases hb : byI id L with
  | none => rw [(ask_lost (seq := seq) hb).1]; exact .inr (.inr (.inl rfl))
  | some i =>
    obtain ⟨hi, _⟩ := byI_lt hb
    rw [(ask_found (seq := seq) hb).1, getD_get hi] at h ⊢
    unfold tellV at h ⊢
    split at h
    · rename_i c; rw [if_pos c]; exact .inr (.inl rfl)
    · rename_i c
      rw [if_neg c]
      split at h
      · rename_i c; rw [if_pos c]; exact .inr (.inr (.inr rfl))
      · rename_i c
        rw [if_neg c]
        split at h
        · rename_i c; rw [if_pos c]; exact .inl ⟨L[i], List.getElem_mem hi, rfl⟩
        · cases h

/-- Each landing that a session remembers is one. -/
def LastOk (m : Ma) : Prop := ∀ x ∈ m.s, x.v.c = 2 → 1 ≤ x.v.r ∧ x.v.r ≤ (m.g.cs.length : Int)

theorem peek_code (G : Gr) (r : Rq) : (peekT G r).c ≠ 2 := by
  unfold peekT
  split
  · simp
  · split
    · unfold readV vdT
      split
      · split
        · split <;> simp
        · simp
      · simp
    · split
      · split <;> simp [vtC]
      · simp [vtC]

theorem do_code {al : Int} (m : Ma) (r : Rq) : ((doV al m r).c = 2 → (doG m r).cs.length = m.g.cs.length + 1 ∧ (doV al m r).r = (m.g.cs.length : Int) + 1) ∧ ((doV al m r).c ≠ 2 → (doG m r).cs.length = m.g.cs.length) := by
  unfold doV doG
  split
  · cases he : endV m.g r.b r.f r.c with
    | none =>
      rw [(landV_none he).1, (landV_none he).2]
      refine ⟨fun _ => ⟨by simp [addG], rfl⟩, fun h => absurd rfl h⟩
    | some v =>
      have h1 := (landV_code m.g r.b r.f r.c)
      rw [he] at h1
      rw [(landV_some he).2]
      refine ⟨fun h => ?_, fun _ => rfl⟩
      have := h1.1 h
      cases this
  · refine ⟨fun h => ?_, fun _ => rfl⟩
    split at h
    · split at h
      · split at h <;> simp at h
      · simp at h
    · exact absurd h (peek_code _ _)

theorem ver_new {al : Int} {m : Ma} {r : Rq} (h : newQ m r = true) : r.k ≠ 0 ∧ r.k ≠ 1 ∧ (askV r.s r.q m.s).2 = false ∧ verV al m r = doV al m r := by
  unfold newQ at h
  simp only [Bool.and_eq_true, decide_eq_true_eq, Bool.not_eq_true'] at h
  obtain ⟨⟨h0, h1⟩, h2⟩ := h
  refine ⟨h0, h1, h2, ?_⟩
  unfold verV
  rw [if_neg h0, if_neg h1, h2, if_neg (by simp)]

/-- What Apply's verdict says of landing. -/
theorem landed {al : Int} {sz : Nat} {m : Ma} (hl : LastOk m) (r : Rq) (ha : m.a < 1099511627776) :
    ((apV al m r).c = 2 → ((apM al sz m r).g.cs.length = m.g.cs.length + 1 ∧ (apV al m r).r = (m.g.cs.length : Int) + 1) ∨ ((apM al sz m r).g.cs.length = m.g.cs.length ∧ 1 ≤ (apV al m r).r ∧ (apV al m r).r ≤ (m.g.cs.length : Int))) ∧
    ((apV al m r).c ≠ 2 → (apM al sz m r).g.cs.length = m.g.cs.length) ∧ LastOk (apM al sz m r) := by
  have e1 : apM al sz m r = ⟨m.a + 1, verG m r, verS al sz m r, cutL (verE al m r) (m.a + 1)⟩ := by unfold apM; rw [if_neg (by omega)]
  have e2 : apV al m r = verV al m r := by unfold apV; rw [if_neg (by omega)]
  rw [e1, e2]
  cases hn : newQ m r with
  | true =>
    obtain ⟨h0, h1, h2, h3⟩ := ver_new (al := al) hn
    have hg : verG m r = doG m r := by unfold verG; rw [hn]; rfl
    rw [hg, h3]
    obtain ⟨d1, d2⟩ := do_code (al := al) m r
    refine ⟨fun h => .inl (d1 h), d2, ?_⟩
    show ∀ x ∈ verS al sz m r, x.v.c = 2 → 1 ≤ x.v.r ∧ x.v.r ≤ ((doG m r).cs.length : Int)
    have hle : m.g.cs.length ≤ (doG m r).cs.length := by
      by_cases hc : (doV al m r).c = 2
      · have := (d1 hc).1; omega
      · have := d2 hc; omega
    unfold verS
    rw [if_neg h0, if_neg h1, h2, if_neg (by simp)]
    refine all_done (all_ask (fun x hx hc => ?_) _) _ _ _ (fun x _ hc => ?_)
    · have := hl x hx hc; omega
    · show 1 ≤ (doV al m r).r ∧ (doV al m r).r ≤ _
      have := d1 hc
      omega
  | false =>
    have hg : verG m r = m.g := by unfold verG; rw [hn]; rfl
    rw [hg]
    have hv : (verV al m r).c = 2 → 1 ≤ (verV al m r).r ∧ (verV al m r).r ≤ (m.g.cs.length : Int) := by
      unfold verV
      split
      · intro h; simp [vtC] at h
      · split
        · split
          · intro h; simp at h
          · intro h; simp [vtC] at h
        · split
          · rename_i hs
            intro h
            rcases ask_told hs with ⟨x, hx, e⟩ | e | e | e
            · rw [e] at h ⊢; exact hl x hx h
            · rw [e] at h; simp [vtC] at h
            · rw [e] at h; simp [vtC] at h
            · rw [e] at h; simp [vtC] at h
          · rename_i c0 c1 c2
            unfold newQ at hn
            simp [c0, c1] at hn
            exact absurd hn c2
    refine ⟨fun h => .inr ⟨rfl, hv h⟩, fun _ => rfl, ?_⟩
    show ∀ x ∈ verS al sz m r, x.v.c = 2 → 1 ≤ x.v.r ∧ x.v.r ≤ (m.g.cs.length : Int)
    unfold verS
    split
    · exact hl
    · split
      · split
        · exact all_open hl _ _ _ (fun h => by simp [vtC] at h)
        · exact hl
      · split
        · exact all_ask hl _
        · rename_i c0 c1 c2
          unfold newQ at hn
          simp [c0, c1] at hn
          exact absurd hn c2

/-- Who only looks changes no commit; in a session that had not done it, it is what is looked at. -/
theorem looks_only {al : Int} {sz : Nat} {m : Ma} (h : MaOk sz m) {r : Rq} (hk : r.k = 3 ∨ r.k = 4 ∨ r.k = 5) (ha : m.a < 1099511627776) :
    (apM al sz m r).g = m.g ∧ ((∃ x ∈ m.s, x.i = r.s ∧ x.q < r.q ∧ 1 ≤ r.q) → apV al m r = peekT m.g r) := by
  have hd : doG m r = m.g := by unfold doG; rw [if_neg (by omega)]
  refine ⟨?_, ?_⟩
  · unfold apM
    rw [if_neg (by omega)]
    show verG m r = m.g
    unfold verG
    split
    · exact hd
    · rfl
  · rintro ⟨x, hx, h1, h2, h3⟩
    obtain ⟨i, hi, e⟩ := uniq_byI h.s.1 hx
    rw [h1] at hi
    have hv : (askV r.s r.q m.s).2 = false := by
      rw [(ask_found hi).1, e]
      unfold tellV
      rw [if_neg (by omega), if_neg (by omega), if_neg (by omega)]
    unfold apV verV doV
    rw [if_neg (by omega), if_neg (by omega), if_neg (by omega), hv, if_neg (by simp), if_neg (by omega), if_neg (by omega)]

/-- A session that is not there. -/
theorem expired {al : Int} {sz : Nat} {m : Ma} {r : Rq} (h0 : r.k ≠ 0) (h1 : r.k ≠ 1) (hs : ∀ x ∈ m.s, x.i ≠ r.s) (ha : m.a < 1099511627776) :
    apV al m r = vtC 6 ∧ apM al sz m r = ⟨m.a + 1, m.g, m.s, cutL m.e (m.a + 1)⟩ := by
  obtain ⟨e1, e2⟩ := ask_lost (seq := r.q) (none_byI hs)
  have hn : newQ m r = false := by unfold newQ; rw [e1]; simp
  unfold apV apM
  rw [if_neg (by omega), if_neg (by omega)]
  refine ⟨?_, ?_⟩
  · unfold verV
    rw [if_neg h0, if_neg h1, e1, if_pos rfl]
  · unfold verG verS verE
    rw [hn, if_neg h0, if_neg h1, e1, e2]
    rfl

/-- A change counts alpha slots later, and not sooner. -/
theorem at_ch {al : Int} {L : List Ep} (hn : L ≠ []) (z q : Int) (a : Bool) {y : Int} (hy : y < z + al) : atL (chL al L z q a) y = atL L y := by
  unfold chL
  split
  · have hc : cntL (L ++ [⟨z + al, told (updB (setB (lastE L).m) q.toNat a)⟩]) y = cntL L y := by
      unfold cntL
      rw [List.filter_append, List.filter_cons_of_neg (by simp; omega)]
      simp
    have hp := plc_lt hn y
    unfold atL plc at *
    rw [hc, List.getD_eq_getElem?_getD, List.getD_eq_getElem?_getD, List.getElem?_append_left hp]
  · rfl

/-- The members of the next slot hang on what was applied alone. -/
theorem members_next {sz : Nat} {m : Ma} (h : MaOk sz m) (r : Rq) (ha : m.a < 1099511627776) {y : Int} (hy : m.a + 1 ≤ y) (hy2 : y < m.a + 2) : atL (apM 2 sz m r).e y = atL m.e y := by
  have e1 : (apM 2 sz m r).e = cutL (verE 2 m r) (m.a + 1) := by unfold apM; rw [if_neg (by omega)]
  rw [e1]
  have hE : OkL (verE 2 m r) := by
    unfold verE
    split
    · exact okL_do (by omega) h.e r
    · exact h.e
  rw [at_cut hE hy]
  unfold verE
  split
  · unfold doE
    split
    · exact at_ch h.e.1 _ _ _ hy2
    · rfl
  · rfl

theorem at_uni {L : List Ep} (h : L ≠ []) (z : Int) {k : Nat} (hk : setB (atL L z) k = true) : uniB L k = true := by
  obtain ⟨x, hx, e⟩ := at_mem h z
  unfold uniB
  rw [List.any_eq_true]
  exact ⟨x, hx, by rw [← e]; exact hk⟩

/-- Verdicts are small. -/
theorem okK_com {G : Gr} (h : Wf G) : ∀ c ∈ G.cs, okK c := fun c hc => by
  obtain ⟨h1, h2, h3, _⟩ := h.com c hc
  exact ⟨by omega, by have := h1.2.1; omega, fun y hy => by have := h2 y hy; unfold okC; omega⟩

theorem okV_peek {G : Gr} (h : Wf G) (r : Rq) : okV (peekT G r) := by
  unfold peekT
  split
  · exact ⟨by simp, by simp, by simp⟩
  · split
    · unfold readV vdT
      split
      · rename_i hn
        have hp := normB_len hn
        split
        · split <;> exact ⟨by simp; omega, by simp, by simp⟩
        · exact ⟨by simp; omega, by simp, by simp⟩
      · exact ⟨by simp, by simp, by simp⟩
    · split
      · split
        · exact okV_vtC 5
        · refine ⟨by simp, ?_, fun x hx => okK_com h x (List.mem_of_mem_drop (List.mem_of_mem_take hx))⟩
          show (logL G.cs r.fr r.mn).length ≤ _
          unfold logL
          rw [List.length_take]
          omega
      · exact okV_vtC 5

theorem confl_mem {ls : List Lf} {b : Int} : ∀ {l : List Ch} {x : List UInt8 × Int}, confl ls b l = some x → ∃ y ∈ l, y.p = x.1
  | [], x, h => by cases h
  | y :: l, x, h => by
    unfold confl at h
    split at h
    · split at h
      · cases h; exact ⟨y, by simp, rfl⟩
      · obtain ⟨z, hz, e⟩ := confl_mem h; exact ⟨z, by simp [hz], e⟩
    · obtain ⟨z, hz, e⟩ := confl_mem h; exact ⟨z, by simp [hz], e⟩

theorem okV_land (G : Gr) (b : Int) (n : List UInt8) (L : List Ch) : okV (vdT (landV G b n L)) := by
  refine ⟨?_, by simp [vdT], by simp [vdT]⟩
  show (landV G b n L).p.length ≤ _
  unfold landV endV
  split
  · simp
  · rename_i hb
    split
    · simp
    · cases hc : confl G.ls b (sortC L) with
      | none => simp
      | some x =>
        obtain ⟨y, hy, e⟩ := confl_mem hc
        obtain ⟨h4, _, _⟩ := badB_false (by simpa using hb : badB b n L = false)
        have := check_short (sortC_check.2 h4) y hy
        simp
        rw [← e]
        omega

theorem okV_do {al : Int} {m : Ma} (h : Wf m.g) (r : Rq) : okV (doV al m r) := by
  unfold doV
  split
  · exact okV_land _ _ _ _
  · split
    · split <;> exact ⟨by simp, by simp, by simp⟩
    · exact okV_peek h r

theorem ok_ap {al : Int} {sz : Nat} {m : Ma} (h : MaOk sz m) (hs : ∀ x ∈ m.s, okS x) (r : Rq) : ∀ x ∈ (apM al sz m r).s, okS x := by
  unfold apM
  split
  · exact hs
  · show ∀ x ∈ verS al sz m r, okS x
    unfold verS
    split
    · exact hs
    · split
      · split
        · rename_i hw
          exact ok_openL hs (by have := wordB_len hw; omega)
        · exact hs
      · split
        · exact ok_askL hs
        · exact ok_doneL (ok_askL hs) (okV_do h.g.wf r)

end Go.Proofs.YthhlfehdnefgoabGreat
