/-
  EntryAmong: what its walk needs.
-/
import Derived.Test.YtlgacmmofimlmabF17
import Derived.Test.YtlgacmmofimlmabEnDc3
import Derived.Test.YtlgacmmofimlmabEnDv5
import Derived.Test.YtlgacmmofimlmabF16
import Derived.Test.YtlgacmmofimlmabBoxGd
namespace Go.Proofs.Ytlgacmmofimlmab
open Go.RowKit

theorem oct_com (x : Com) (h : okCom x) : Oct (bK x) ∧ (bK x).length ≤ 17560 := by
  have h1 := oct_two (oct_two (oct_two (oct_num _ h.1) (oct_num _ h.2.1)) (oct_bT _ h.2.2.1)) (oct_chgs _ h.2.2.2)
  exact ⟨h1.1, by have := h1.2; unfold bK; omega⟩

theorem oct_coms (L : List Com) (h : okComs L) : Oct (bKs L) ∧ (bKs L).length ≤ 600000 := by
  have h1 := oct_flat bK 17560 L (fun c hc => oct_com c (h.2 c hc))
  have h0 : goodB (L.length : Int) = true := (good_iff _).2 (by have := h.1; omega)
  have h2 := oct_two (oct_num (L.length : Int) h0) h1
  unfold bKs bL
  rw [if_pos h.1]
  exact ⟨h2.1, by have := h2.2; have := h.1; omega⟩

theorem bV_good {v : Vt} (h : okVer v) : Oct (bV v) ∧ (bV v).length ≤ 1000000 := by
  rw [ok_bytesV h]
  obtain ⟨⟨hk, _⟩, h2⟩ := h
  have h1 := oct_num v.c hk
  have h3 : Oct (bG v.c v) ∧ (bG v.c v).length ≤ 900000 := by
    unfold okG at h2
    unfold bG
    split
    · rename_i n1
      rw [if_pos n1] at h2
      have := oct_num _ h2.1
      exact ⟨this.1, by omega⟩
    rename_i n1
    rw [if_neg n1] at h2
    split
    · rename_i n2
      rw [if_pos n2] at h2
      have := oct_num _ h2.1
      exact ⟨this.1, by omega⟩
    rename_i n2
    rw [if_neg n2] at h2
    split
    · rename_i n3
      rw [if_pos n3] at h2
      have := oct_two (oct_bT _ h2.1.1) (oct_num _ h2.1.2)
      exact ⟨this.1, by have := this.2; omega⟩
    rename_i n3
    rw [if_neg n3] at h2
    split
    · rename_i n9
      rw [if_pos n9] at h2
      have := oct_two (oct_bT _ h2.1.1) (oct_two (⟨hiB_oct 8 v.d, by rw [hiB_length]; exact Nat.le_refl _⟩ : Oct (hiB 8 v.d) ∧ (hiB 8 v.d).length ≤ 8) (oct_num _ h2.1.2.2))
      exact ⟨this.1, by have := this.2; omega⟩
    rename_i n9
    rw [if_neg n9] at h2
    split
    · rename_i n10
      rw [if_pos n10] at h2
      have := oct_bT _ h2.1
      exact ⟨this.1, by omega⟩
    rename_i n10
    rw [if_neg n10] at h2
    split
    · rename_i n11
      rw [if_pos n11] at h2
      have := oct_coms _ h2.1
      exact ⟨this.1, by omega⟩
    rename_i n11
    rw [if_neg n11] at h2
    split
    · rename_i n12
      rw [if_pos n12] at h2
      have := oct_num _ h2.1
      exact ⟨this.1, by omega⟩
    · exact ⟨oct_nil, by simp⟩
  have h4 := oct_two h1 h3
  exact ⟨h4.1, by have := h4.2; omega⟩

theorem may_mv (v : Vt) (h : U64v v) : mayV v = mvB v := by
  have h1 := may_okV v h
  have h2 := mv_ok v h
  cases hm : mayV v <;> cases hc : mvB v
  · rfl
  · rw [hc] at h2; rw [hm] at h1; exact absurd (h1.2 (h2.1 rfl)) (by simp)
  · rw [hc] at h2; rw [hm] at h1; exact absurd (h2.2 (h1.1 rfl)) (by simp)
  · rfl

theorem may_chk (r : Rq) (h : U64c r.c) : mayR r = chkB r := by
  have h1 := may_ok r h
  have h2 := chk_ok r h
  cases hm : mayR r <;> cases hc : chkB r
  · rfl
  · rw [hc] at h2; rw [hm] at h1; exact absurd (h1.2 (h2.1 rfl)) (by simp)
  · rw [hc] at h2; rw [hm] at h1; exact absurd (h2.2 (h1.1 rfl)) (by simp)
  · rfl

theorem kept_boolA {f : FuncId} {a : Array Value} {w : World} {b c : Bool} (h : Calls Try.prog f a w fun e w' => e = .returned (.bool b) ∧ Kept [] w w') (e : b = c) : Calls Try.prog f a w fun e w' => e = .returned (.bool c) ∧ Kept [] w w' := e ▸ h

/-- A struct within a row is read whole. -/
theorem wl_load_at {P : Program} {ops : Array Oper} {rest : List Oper} {a : Act} {w : World} {Q : Exit → Act → World → Prop} {d : Option Tmp} {x : Operand} {T ty : TypeId} {ps : String} {af : Array Edge}
    {b o : Nat} {cs : List Value} (hc : w.rangeAt b o cs) (hT : RowT P T cs.length) (hx : a.eval x = .pointer (some ⟨b, o, none⟩))
    (h : wpList P ops Q rest (a.put d (.agg cs.toArray)) w) : wpList P ops Q (⟨d, .load T x, ty, ps, af, none⟩ :: rest) a w := by
  obtain ⟨D, hu, hd, hi⟩ := hT
  exact wpList_load_mid rfl _ x rfl b o hx cs D hc hu hd hi h

/-- .. where it is wanted. -/
theorem wl_load_atg {P : Program} {ops : Array Oper} {rest : List Oper} {a : Act} {w : World} {Q : Exit → Act → World → Prop} {d : Option Tmp} {x : Operand} {T ty : TypeId} {ps : String} {af : Array Edge} {g : Nat × Bool}
    {b o : Nat} {cs : List Value} (hc : w.rangeAt b o cs) (hT : RowT P T cs.length) (hw : Region.wanted ⟨d, .load T x, ty, ps, af, some g⟩ (yielded ops a.tmps) = true) (hx : a.eval x = .pointer (some ⟨b, o, none⟩))
    (h : wpList P ops Q rest (a.put d (.agg cs.toArray)) w) : wpList P ops Q (⟨d, .load T x, ty, ps, af, some g⟩ :: rest) a w := by
  obtain ⟨D, hu, hd, hi⟩ := hT
  unfold wpList
  rw [if_pos hw]
  exact Or.inl (wp_load_mid T x rfl b o hx cs D hc hu hd hi h)

theorem rq_range {w : World} {b o : Nat} {x : Rm} (h : RqAt w b o x) : w.rangeAt b o (rqC x) := fun j v hv => by
  match j, hv with
  | 0, hv => simp [rqC] at hv; subst hv; exact h.c0
  | 1, hv => simp [rqC] at hv; subst hv; exact h.c1
  | 2, hv => simp [rqC] at hv; subst hv; exact h.c2
  | 3, hv => simp [rqC] at hv; subst hv; exact h.c3
  | 4, hv => simp [rqC] at hv; subst hv; exact h.c4
  | 5, hv => simp [rqC] at hv; subst hv; exact h.c5
  | 6, hv => simp [rqC] at hv; subst hv; exact h.c6
  | 7, hv => simp [rqC] at hv; subst hv; exact h.c7
  | 8, hv => simp [rqC] at hv; subst hv; exact h.c8
  | 9, hv => simp [rqC] at hv; subst hv; exact h.c9
  | 10, hv => simp [rqC] at hv; subst hv; exact h.c10
  | j + 11, hv => simp [rqC] at hv

/-- A writer in memory that is new since X. -/
def Wn (p : Nat) (X : World) (s : List Int × Int) (m : Nat) (w : World) : Prop := ∃ O, AtP p w O s m ∧ Kept [] X w ∧ ∀ k ∈ O, X.heap.size ≤ k

theorem wn_step {p : Nat} {X w : World} {s s' : List Int × Int} {m m' : Nat} {f : FuncId} {a : Array Value} (h : Wn p X s m w)
    (c : ∀ O, (∀ k ∈ O, X.heap.size ≤ k) → Kept [] X w → AtP p w O s m → Calls Try.prog f a w fun r w' => r = .returned (.tuple #[]) ∧ Went (AtP p) w O s' m' w') : Calls Try.prog f a w fun r w' => r = .returned (.tuple #[]) ∧ Wn p X s' m' w' := by
  obtain ⟨O, hA, hk, hO⟩ := h
  refine (c O hO hk hA).mono (fun r w' hr => ⟨hr.1, ?_⟩)
  obtain ⟨O', h1, h2, h3⟩ := hr.2
  refine ⟨O', h1, hk.trans h2 (fun i hi => .inr (hO i hi)), fun k hk' => ?_⟩
  rcases h3 k hk' with h4 | h4
  · exact hO k h4
  · exact Nat.le_trans hk.size h4

theorem wn_kept {p : Nat} {X w w' : World} {s : List Int × Int} {m : Nat} (h : Wn p X s m w) (k : Kept [] w w') : Wn p X s m w' := by
  obtain ⟨O, hA, hk, hO⟩ := h
  exact ⟨O, (pen_hand p).kept hA k (by simp), hk.trans k (by simp), hO⟩

theorem wn_less {p : Nat} {X w : World} {s : List Int × Int} {m m' : Nat} (h : Wn p X s m w) (hm : m' ≤ m) : Wn p X s m' w := by
  obtain ⟨O, ⟨g, e, hw, hl⟩, hk, hO⟩ := h
  exact ⟨O, ⟨g, e, hw, by omega⟩, hk, hO⟩

/-- A reader in memory that is new since X. -/
def Rn (p : Nat) (F : List Nat) (X : World) (s : List Int × Int) (w : World) : Prop := AtE p F w (p :: F) s 0 ∧ Kept [] X w ∧ ∀ k ∈ p :: F, X.heap.size ≤ k

theorem rn_kept {p : Nat} {F : List Nat} {X w w' : World} {s : List Int × Int} (h : Rn p F X s w) (k : Kept [] w w') : Rn p F X s w' := ⟨(eye_hand p F).kept h.1 k (by simp), h.2.1.trans k (by simp), h.2.2⟩

/-- What is written of requests, one behind the other. -/
def stA (L : List Rq) (i : Nat) : List Int × Int := stepP ([], 0) ((L.take i).all mayR) ((L.take i).flatMap bR)

theorem stA_next (L : List Rq) (i : Nat) (h : i < L.length) : putS (stA L i) L[i] = stA L (i + 1) := by
  unfold stA
  rw [put_may, stepP_trans, List.take_succ_eq_append_getElem h, List.all_append, List.flatMap_append]
  simp

theorem all_next (L : List Rq) (i : Nat) (h : i < L.length) : (L.take (i + 1)).all chkB = ((L.take i).all chkB && chkB L[i]) := by
  rw [List.take_succ_eq_append_getElem h, List.all_append]
  simp

theorem drop_next (L : List Rq) (i : Nat) (h : i < L.length) : (L.drop i).flatMap bR = bR L[i] ++ (L.drop (i + 1)).flatMap bR := by
  rw [List.drop_eq_getElem_cons h, List.flatMap_cons]

theorem all_same (L : List Rq) (h : ∀ r ∈ L, U64c r.c) : L.all mayR = L.all chkB := by
  induction L with
  | nil => rfl
  | cons x L ih => simp only [List.all_cons]; rw [may_chk x (h x (by simp)), ih (fun r hr => h r (by simp [hr]))]

def AmC (X : World) (b : Bool) (s : Value) (wx : World) : Prop := s = .bool b ∧ Hid (Kept [] X wx)

def AmI (p : Nat) (X : World) (L : List Rq) (ok0 : Bool) (n M : Nat) (bv iv : Value) (wr : World) : Prop :=
  ∃ (i : Nat) (b : Bool), bv = .bool b ∧ iv = .int .i64 (i : Int) ∧ i ≤ n ∧ Hid (b = (ok0 && (L.take i).all chkB)) ∧ Hid (Wn p X (stA L i) (M - 200 * i) wr)

def ArI (p : Nat) (F : List Nat) (X : World) (L : List Rq) (t : List Int) (n : Nat) (iv : Value) (wr : World) : Prop :=
  ∃ i : Nat, iv = .int .i64 (i : Int) ∧ i ≤ n ∧ Hid (Rn p F X ((L.drop i).flatMap bR ++ t, 0) wr)

end Go.Proofs.Ytlgacmmofimlmab
