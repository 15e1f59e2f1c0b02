/-
  setOf: the set of members that may be.
-/
import Derived.Test.YtddkaagdkmmknabEpSet
namespace Go.Proofs.Ytddkaagdkmmknab
open Go.RowKit

set_option maxHeartbeats 1000000 in
theorem isReplica_call (w : World) (x : Int) : Calls Try.prog 13 #[.int .i64 x] w fun e w' => e = .returned (.bool (decide (0 ≤ x ∧ x < 15))) ∧ w = w' := by
  by_cases h0 : 0 ≤ x
  · by_cases h1 : x < 15
    · have hd : decide (0 ≤ x ∧ x < 15) = true := by simp [h0, h1]
      rw [hd]; clear hd
      go_enter Try.func13, Try.ntmps13
      go_wp2
      go_ret
      simp
    · have hd : decide (0 ≤ x ∧ x < 15) = false := by simp [h1]
      rw [hd]; clear hd
      go_enter Try.func13, Try.ntmps13
      go_wp2
      go_ret
      simp
  · have hd : decide (0 ≤ x ∧ x < 15) = false := by simp [h0]
    rw [hd]; clear hd
    go_enter Try.func13, Try.ntmps13
    go_wp2
    go_ret
    simp

/-- What is so of members that have come: they rise, and this is the least that may come next. -/
def RisE (m : List Int) (z : Int) : Prop := m.Pairwise (· < ·) ∧ (∀ x ∈ m, 0 ≤ x ∧ x < 15 ∧ x < z) ∧ 0 ≤ z ∧ z ≤ 15 ∧ (z = 0 ∨ z - 1 ∈ m)

theorem risE_nil : RisE [] 0 := ⟨List.Pairwise.nil, fun _ h => by simp at h, by omega, by omega, .inl rfl⟩

theorem risE_snoc {m : List Int} {z y : Int} (h : RisE m z) (h1 : ¬ y < z) (h2 : y < 15) : RisE (m ++ [y]) (y + 1) := by
  obtain ⟨a, b, c, d, e⟩ := h
  refine ⟨?_, ?_, by omega, by omega, .inr (by simp)⟩
  · rw [List.pairwise_append]
    exact ⟨a, List.pairwise_singleton _ _, fun x hx y' hy => by simp at hy; subst hy; have := b x hx; omega⟩
  · intro x hx
    rcases List.mem_append.1 hx with hx | hx
    · have := b x hx; omega
    · simp at hx; subst hx; omega

theorem risE_may {m : List Int} {z : Int} (h : RisE m z) (hm : m ≠ []) : May m := ⟨hm, h.1, fun x hx => ⟨(h.2.1 x hx).1, (h.2.1 x hx).2.1⟩⟩

theorem risE_low {m : List Int} {z y : Int} {r : List Int} (h : RisE m z) (h1 : y < z) : ¬ May (m ++ y :: r) := fun hm => by
  obtain ⟨_, a, b⟩ := hm
  rcases h.2.2.2.2 with e | e
  · have := b y (by simp); omega
  · rw [List.pairwise_append] at a
    have := a.2.2 _ e y (by simp)
    omega

theorem setB_snoc (m : List Int) (q : Nat) : updB (setB m) q true = setB (m ++ [(q : Int)]) := by
  funext k
  unfold updB setB
  by_cases h : k = q
  · subst h; simp
  · have : ¬ (k : Int) = q := by omega
    simp [h, this]

theorem take_cons {m : List Int} {j : Nat} (h : j < m.length) : m = m.take j ++ m[j] :: m.drop (j + 1) := by
  rw [← List.drop_eq_getElem_cons h, List.take_append_drop]

def SoI (w : World) (m : List Int) (iv lv : Value) (wr : World) : Prop :=
  ∃ j : Nat, iv = .int .i64 (j : Int) ∧ j ≤ m.length ∧ ∃ z : Int, lv = .int .i64 z ∧ Hid (RisE (m.take j) z) ∧ Hid (SetAt wr w.heap.size fun _ => false) ∧ Hid (SetAt wr (w.heap.size + 1) (setB (m.take j))) ∧ Hid (Kept [] w wr)

def SoP (m : List Int) (w : World) (e : Ending) (w' : World) : Prop := ∃ S, e = .returned (.tuple #[setV S, .bool (decide (May m))]) ∧ (May m → S = setB m) ∧ Kept [] w w'

set_option maxHeartbeats 4000000 in
set_option maxRecDepth 100000 in
theorem setOf_call (w : World) (ao : Option Addr) (n c : Nat) (m : List Int) (hS : SlI w ao n c m) :
    Calls Try.prog 10 #[.slice ao n c] w fun e w' => SoP m w e w' := by
  have hl := hS.1
  have hc := hS.2.1
  have hm := hS.2.2.1
  unfold maxLen at hm
  have HS := hide hS
  have HL := hide hl
  clear hS hl
  go_enter Try.func10, Try.ntmps10
  go_wp2_with fail
  go_loopw [10, 5] (fun iv lv wr => SoI w m iv lv wr) (fun iv _ _ => n - (intOf iv).toNat)
  case atStart => exact ⟨0, rfl, Nat.zero_le _, 0, rfl, by show RisE _ _; rw [List.take_zero]; exact risE_nil, (lay2 w _ _ _).1, (lay2 w _ _ _).2, ((Kept.refl _ _).alloc _).alloc _⟩
  case round =>
    obtain ⟨j, rfl, hj, z, rfl, HR, H0, H1, HK⟩ := hrel
    by_cases hlt : j < n
    · have hlt' : (j : Int) < n := by omega
      have hjc : j ≤ c := by omega
      have hjS : j < m.length := by rw [HL.out]; exact hlt
      obtain ⟨g, o, rfl, h0⟩ := (HS.out.kept HK.out).2.2.2 j hjS
      have HT : Hid (m.take (j + 1) = m.take j ++ [m[j]]) := List.take_succ_eq_append_getElem hjS
      have HC : Hid (m = m.take j ++ m[j] :: m.drop (j + 1)) := take_cons hjS
      have cR := isReplica_call wr m[j]
      generalize m[j] = y at *
      by_cases hd : y < z
      · have HM : Hid (decide (May m) = false) := by
          show _ = _
          rw [HC.out]
          simpa using risE_low HR.out hd
        go_wp2_with (((with_reducible refine wl_store_set (fun _ => false) ?_ ?_ H0.out ?_); rfl; rfl; intro w1 HS1 HK1))
        refine bodyPost_ret (set_res2 (by rfl) _ (by rfl) HS1.out) rfl ?_
        exact ⟨_, by rw [HM.out]; rfl, fun h => absurd h (by simpa using HM.out), HK.out.trans HK1.out (by simp)⟩
      · by_cases hr : 0 ≤ y ∧ y < 15
        · have er : decide (0 ≤ y ∧ y < 15) = true := by simp [hr]
          rw [er] at cR
          obtain ⟨q, rfl⟩ : ∃ q : Nat, y = q := ⟨y.toNat, by omega⟩
          have hq : q < 15 := by omega
          have c1 := H1.out.cell hq
          have f1 := froz3 H1.out q
          have HR2 : Hid (RisE (m.take (j + 1)) (q + 1)) := by show RisE _ _; rw [HT.out]; exact risE_snoc HR.out hd hr.2
          go_wp2_with (go_at_call 13; refine cR.mono ?_; clear cR; rintro _ _ ⟨rfl, rfl⟩)
          go_roundw
          case rel =>
            refine ⟨j + 1, by go_num, hjS, q + 1, by go_num, HR2, ?_, ?_, ?_⟩
            · exact H0.out.kept ((Kept.refl [w.heap.size + 1] _).setCell (by simp) _) (by simp)
            · show SetAt _ _ _
              rw [HT.out, ← setB_snoc]
              exact H1.out.set true hq
            · exact HK.out.setCell (.inr (by show w.heap.size ≤ w.heap.size + 1; omega)) _
          case measure => simp [intOf]; omega
        · have er : decide (0 ≤ y ∧ y < 15) = false := by simpa using hr
          rw [er] at cR
          have HM : Hid (decide (May m) = false) := by
            show _ = _
            rw [decide_eq_false_iff_not]
            intro h
            exact hr (h.2.2 y (by rw [HC.out]; simp))
          go_wp2_with (first | ((with_reducible refine wl_store_set (fun _ => false) ?_ ?_ H0.out ?_); rfl; rfl; intro w1 HS1 HK1) | (go_at_call 13; refine cR.mono ?_; clear cR; rintro _ _ ⟨rfl, rfl⟩))
          refine bodyPost_ret (set_res2 (by rfl) _ (by rfl) HS1.out) rfl ?_
          exact ⟨_, by rw [HM.out]; rfl, fun h => absurd h (by simpa using HM.out), HK.out.trans HK1.out (by simp)⟩
    · have hlt' : ¬ (j : Int) < n := by omega
      have HE : Hid (m.take j = m) := List.take_of_length_le (by rw [HL.out]; omega)
      have HM : Hid (decide (May m) = decide (0 < n)) := by
        show _ = _
        rw [decide_eq_decide]
        refine ⟨fun h => ?_, fun h => ?_⟩
        · rw [← HL.out]; exact List.length_pos_iff.2 h.1
        · have h1 := HR.out
          rw [HE.out] at h1
          exact risE_may h1 (List.ne_nil_of_length_pos (by rw [HL.out]; exact h))
      by_cases hn : 0 < n
      · have hn' : 0 < (n : Int) := by omega
        go_wp2_with (first | ((with_reducible refine wl_load_set ?_ H1.out.range ?_); rfl) | ((with_reducible refine wl_store_set (setB (m.take j)) ?_ ?_ H0.out ?_); rfl; rfl; intro w1 HS1 HK1))
        refine bodyPost_ret (set_res2 (by rfl) _ (by rfl) HS1.out) rfl ?_
        exact ⟨setB (m.take j), by rw [HM.out]; simp [hn], fun _ => by rw [HE.out], HK.out.trans HK1.out (by simp)⟩
      · have hn' : ¬ 0 < (n : Int) := by omega
        go_wp2_with (first | ((with_reducible refine wl_load_set ?_ H1.out.range ?_); rfl) | ((with_reducible refine wl_store_set (setB (m.take j)) ?_ ?_ H0.out ?_); rfl; rfl; intro w1 HS1 HK1))
        refine bodyPost_ret (set_res2 (by rfl) _ (by rfl) HS1.out) rfl ?_
        exact ⟨setB (m.take j), by rw [HM.out]; simp [hn], fun _ => by rw [HE.out], HK.out.trans HK1.out (by simp)⟩

end Go.Proofs.Ytddkaagdkmmknab
