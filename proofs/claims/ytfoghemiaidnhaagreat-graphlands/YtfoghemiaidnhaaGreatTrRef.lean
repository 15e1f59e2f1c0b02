/-
  The document's own tree, a sorted list: place.
-/
import Derived.Test.YtfoghemiaidnhaaGreatTrSame
import Derived.Test.YtfoghemiaidnhaaGreatM5
namespace Go.Proofs.YtfoghemiaidnhaaGreat
open Go.RowKit

/-- Where a path is in a list, or would be. -/
def placeL (f : List UInt8) : List Lf → Nat × Bool
  | [] => (0, false)
  | x :: L => if cmpT f x.p = 0 then (0, true) else if cmpT f x.p < 0 then (0, false) else ((placeL f L).1 + 1, (placeL f L).2)

theorem placeL_le (f : List UInt8) (L : List Lf) : (placeL f L).1 ≤ L.length ∧ ((placeL f L).2 = true → (placeL f L).1 < L.length) := by
  induction L with
  | nil => simp [placeL]
  | cons x L ih =>
    simp only [placeL]
    split
    · simp
    · split
      · simp
      · simp only [List.length_cons]
        exact ⟨by omega, fun h => by have := ih.2 h; omega⟩

theorem ins_place (x : Lf) (L : List Lf) : ins x L = L.take (placeL x.p L).1 ++ [x] ++ L.drop (if (placeL x.p L).2 = true then (placeL x.p L).1 + 1 else (placeL x.p L).1) := by
  induction L with
  | nil => simp [ins, placeL]
  | cons y L ih =>
    simp only [ins, placeL]
    split
    · simp
    · split
      · simp
      · simp only [List.take_succ_cons, ih]
        split <;> simp

theorem find_place (f : List UInt8) (L : List Lf) (h : Srt L) : L.find? (fun x => decide (f = x.p)) = if (placeL f L).2 = true then L[(placeL f L).1]? else none := by
  induction L with
  | nil => simp [placeL]
  | cons y L ih =>
    unfold Srt at h
    rw [List.pairwise_cons] at h
    rw [List.find?_cons]
    rcases cmpT_vals f y.p with e | e | e
    · have hne : f ≠ y.p := fun q => by rw [(ordT.zero _ _).2 q] at e; omega
      have ep : placeL f (y :: L) = (0, false) := by simp only [placeL]; rw [if_neg (by omega), if_pos (by omega)]
      rw [decide_eq_false hne, ep]
      simp only [Bool.false_eq_true, if_false]
      rw [List.find?_eq_none]
      intro b hb q
      simp at q
      have h3 := cmpT_lt (show cmpT f y.p < 0 by omega) (h.1 b hb)
      rw [q, cmpT_self] at h3; omega
    · have ep : placeL f (y :: L) = (0, true) := by simp only [placeL]; rw [if_pos e]
      rw [decide_eq_true ((ordT.zero _ _).1 e), ep]; simp
    · have hne : f ≠ y.p := fun q => by rw [(ordT.zero _ _).2 q] at e; omega
      have ep : placeL f (y :: L) = ((placeL f L).1 + 1, (placeL f L).2) := by simp only [placeL]; rw [if_neg (by omega), if_neg (by omega)]
      rw [decide_eq_false hne, ep, ih h.2]
      simp

theorem place_step {f : List UInt8} {L : List Lf} {k : Nat} (hk : k < L.length) {R : Nat × Bool} (h : R = ((placeL f (L.drop k)).1 + k, (placeL f (L.drop k)).2)) :
    (cmpT f L[k].p = 0 → R = (k, true)) ∧ (cmpT f L[k].p < 0 → R = (k, false)) ∧ (0 < cmpT f L[k].p → R = ((placeL f (L.drop (k + 1))).1 + (k + 1), (placeL f (L.drop (k + 1))).2)) := by
  rw [List.drop_eq_getElem_cons hk] at h
  simp only [placeL] at h
  refine ⟨fun e => ?_, fun e => ?_, fun e => ?_⟩
  · rw [if_pos e] at h; simpa using h
  · rw [if_neg (by omega), if_pos e] at h; simpa using h
  · rw [if_neg (by omega), if_neg (by omega)] at h; rw [h]; simp; omega

set_option maxHeartbeats 4000000 in
set_option maxRecDepth 100000 in
theorem place_call (w : World) (ao : Option Addr) (n c : Nat) (L : List Lf) (ht : SlL w ao n c L) (hp : ∀ x ∈ L, x.p.length ≤ 100000000000) (f : List UInt8) (hf : f.length ≤ 100000000000) :
    Calls Tryz.prog 73 #[.agg #[.slice ao n c], .string (str f)] w fun e w' => e = .returned (.tuple #[.int .i64 ((placeL f L).1 : Int), .bool (placeL f L).2]) ∧ Kept [] w w' := by
  have hn := ht.1
  subst hn
  have hm := ht.2.2.1
  have hc := ht.2.1
  unfold maxLen at hm
  obtain ⟨R, hR⟩ : ∃ R, R = placeL f L := ⟨_, rfl⟩
  rw [← hR]
  have hK0 := (Kept.refl [] w).alloc (.cells #[.slice ao L.length c] 43)
  have bT := cell_of_one (heap_alloc_new w (.cells #[.slice ao L.length c] 43))
  have HL : Hid (∀ i (hi : i < L.length), ∃ b o, ao = some ⟨b, o, none⟩ ∧ LfAt w b (o + i * 4) L[i]) := ht.2.2.2
  have HP : Hid (∀ x ∈ L, x.p.length ≤ 100000000000) := hp
  have HR : Hid (R = ((placeL f (L.drop 0)).1 + 0, (placeL f (L.drop 0)).2)) := hR
  clear ht hp hR
  go_enter Tryz.func73, Tryz.ntmps73
  go_wp2_with fail
  go_loopw [6] (fun iv wr => ∃ k : Nat, iv = .int .i64 (k : Int) ∧ k ≤ L.length ∧ Hid (R = ((placeL f (L.drop k)).1 + k, (placeL f (L.drop k)).2)) ∧ Kept [] (w.alloc (.cells #[.slice ao L.length c] 43)) wr) (fun iv _ => L.length - (intOf iv).toNat)
  case atStart => exact ⟨0, rfl, Nat.zero_le _, HR, Kept.refl _ _⟩
  case round =>
    obtain ⟨k, rfl, hk, HR, hK⟩ := hrel
    have bT' := hK.cell bT (by simp)
    have hKw := hK0.trans hK (by simp)
    clear bT
    by_cases hlt : k < L.length
    · obtain ⟨b, o, rfl, hx⟩ := HL.out k hlt
      have c0 := (hx.kept hKw).c0
      have hxp := HP.out L[k] (List.getElem_mem hlt)
      have hst := place_step hlt HR.out
      have cc := fun w' => rcompare_call f L[k].p w' hf hxp
      generalize L[k] = x at *
      rcases cmpT_vals f x.p with e | e | e
      · have HE : Hid (R = (k, false)) := hst.2.1 (by omega)
        rw [e] at cc
        clear hst hx
        go_wp2_with fail
        refine (cc _).mono ?_
        rintro e w1 ⟨rfl, hK1⟩
        go_wp2_with fail
        go_ret2
        exact ⟨by rw [HE.out]; rfl, hKw.trans hK1 (by simp)⟩
      · have HE : Hid (R = (k, true)) := hst.1 e
        rw [e] at cc
        clear hst hx
        go_wp2_with fail
        refine (cc _).mono ?_
        rintro e w1 ⟨rfl, hK1⟩
        go_wp2_with fail
        go_ret2
        exact ⟨by rw [HE.out]; rfl, hKw.trans hK1 (by simp)⟩
      · have HE : Hid (R = ((placeL f (L.drop (k + 1))).1 + (k + 1), (placeL f (L.drop (k + 1))).2)) := hst.2.2 (by omega)
        rw [e] at cc
        clear hst hx
        go_wp2_with fail
        refine (cc _).mono ?_
        rintro e w1 ⟨rfl, hK1⟩
        go_wp2_with fail
        go_roundw
        case rel => exact ⟨k + 1, by simp, by omega, HE, hK.trans hK1 (by simp)⟩
        case measure => simp [intOf]; omega
    · have HE : Hid (R = (L.length, false)) := by
        show R = (L.length, false)
        have := HR.out
        rw [List.drop_of_length_le (by omega)] at this
        rw [this]; simp [placeL]; omega
      go_wp2_with fail
      go_ret2
      exact ⟨by rw [HE.out]; rfl, hKw⟩

end Go.Proofs.YtfoghemiaidnhaaGreat
