/-
  A part of a row sorted by changing neighbours: slices.insertionSortCmpFunc, over the order of paths.
-/
import Derived.Test.YtdmlcgmajpjmdaaChRot
import Derived.Test.YtdmlcgmajpjmdaaPaComp
namespace Go.Proofs.Ytdmlcgmajpjmdaa
open Go.RowKit

set_option maxHeartbeats 2000000 in
theorem cmp_call (x y : Ch) (w : World) (hx : x.p.length ≤ 140737488355328) (hy : y.p.length ≤ 140737488355328) :
    Calls Try.prog 20 #[.agg #[.string (str x.p), .bool x.g, .int .u64 x.d], .agg #[.string (str y.p), .bool y.g, .int .u64 y.d]] w fun e w' => e = .returned (.int .i64 (cmpT x.p y.p)) ∧ Kept [] w w' := by
  have hK := ((Kept.refl [] w).alloc (.cells #[.string (str x.p), .bool x.g, .int .u64 x.d] 27)).alloc (.cells #[.string (str y.p), .bool y.g, .int .u64 y.d] 27)
  go_enter Try.func20, Try.ntmps20
  go_wp2_with fail
  refine (compare_call x.p y.p _ hx hy).mono ?_
  rintro e w' ⟨rfl, hK'⟩
  have hK2 := hK.trans hK' (by simp)
  clear hK hK'
  go_wp2_with fail
  go_ret
  exact ⟨rfl, hK2⟩

/-- Paths that are texts. -/
def Bd (f : Nat → Ch) (n : Nat) : Prop := ∀ k, k < n → (f k).p.length ≤ 140737488355328

theorem Bd.alike {f h : Nat → Ch} {n a b : Nat} (H : Bd f n) (A : AlikeF f h a b) (hb : b ≤ n) : Bd h n := by
  intro k hk
  by_cases hc : k < a ∨ b ≤ k
  · rw [A.same k hc]; exact H k hk
  · obtain ⟨j, h1, h2, e⟩ := A.find (k := k) (by omega) (by omega)
    rw [← e]; exact H j (by omega)

/-- All but the one at j rise, and those behind it are above it. -/
structure InsJ (h : Nat → Ch) (a j i : Nat) : Prop where
  rise : ∀ p q, a ≤ p → p < q → q ≤ i → p ≠ j → q ≠ j → cmpT (h p).p (h q).p ≤ 0
  above : ∀ q, j < q → q ≤ i → cmpT (h j).p (h q).p < 0

theorem insJ_start {h : Nat → Ch} {a i : Nat} (H : RisF h a i) : InsJ h a i i :=
  ⟨fun p q h1 h2 h3 _ h5 => H p q h1 h2 (by omega), fun q h1 h2 => by omega⟩

theorem insJ_end {h : Nat → Ch} {a j i : Nat} (H : InsJ h a j i) (hj : j ≤ i) (he : j = a ∨ ∃ k, j = k + 1 ∧ a ≤ k ∧ ¬ cmpT (h j).p (h k).p < 0) : RisF h a (i + 1) := by
  intro p q h1 h2 h3
  by_cases c1 : p = j
  · subst c1; exact Int.le_of_lt (H.above q h2 (by omega))
  · by_cases c2 : q = j
    · subst c2
      rcases he with he | ⟨k, e, hk, hn⟩
      · omega
      · have h4 := cmpT_not hn
        by_cases c3 : p = k
        · subst c3; exact h4
        · exact cmpT_le (H.rise p k h1 (by omega) (by omega) c1 (by omega)) h4
    · exact H.rise p q h1 h2 (by omega) c1 c2

theorem insJ_step {h : Nat → Ch} {a k i : Nat} (H : InsJ h a (k + 1) i) (hk : a ≤ k) (hi : k + 1 ≤ i) (hlt : cmpT (h (k + 1)).p (h k).p < 0) : InsJ (swp h (k + 1) k) a k i := by
  have e : ∀ q, q ≠ k → q ≠ k + 1 → swp h (k + 1) k q = h q := fun q h1 h2 => by simp only [swp]; rw [if_neg h2, if_neg h1]
  have e1 : swp h (k + 1) k (k + 1) = h k := by simp [swp]
  have e2 : swp h (k + 1) k k = h (k + 1) := by simp [swp]
  refine ⟨fun p q h1 h2 h3 h4 h5 => ?_, fun q h1 h2 => ?_⟩
  · by_cases c1 : p = k + 1
    · subst c1
      rw [e1, e q h5 (by omega)]
      exact H.rise k q hk (by omega) h3 (by omega) (by omega)
    · by_cases c2 : q = k + 1
      · subst c2
        rw [e1, e p h4 c1]
        exact H.rise p k h1 (by omega) (by omega) c1 (by omega)
      · rw [e p h4 c1, e q h5 c2]
        exact H.rise p q h1 h2 h3 c1 c2
  · rw [e2]
    by_cases c : q = k + 1
    · subst c; rw [e1]; exact hlt
    · rw [e q (by omega) c]; exact H.above q (by omega) h2

theorem insJ_alike {h : Nat → Ch} {k : Nat} (hlt : cmpT (h (k + 1)).p (h k).p < 0) : AlikeF h (swp h (k + 1) k) k (k + 2) := by
  rw [swp_comm]
  exact swp_alike h k (fun e => cmpT_ne hlt e.symm)

set_option maxHeartbeats 4000000 in
theorem ins_call (w : World) (g n cap a b : Nat) (f : Nat → Ch) (hR : RowC w g n cap f) (hB : Bd f n) (hab : a ≤ b) (hb : b ≤ n) (hn : n ≤ 1000000000) :
    Calls Try.prog 49 #[.slice (some ⟨g, 0, none⟩) n cap, .int .i64 a, .int .i64 b, .func (.func 20) #[] #[]] w fun e w' => e = .returned (.tuple #[]) ∧
      ∃ h, RowC w' g n cap h ∧ RisF h a b ∧ AlikeF f h a b ∧ Kept [g] w w' := by
  have hcap := hR.le
  have hmax := hR.max
  unfold maxLen at hmax
  have HR : Hid (RowC w g n cap f) := hR
  clear hR
  go_enter Try.func49, Try.ntmps49
  go_wp2_with fail
  go_loopw [8] (fun iv wr => ∃ (i : Nat) (h : Nat → Ch), a + 1 ≤ i ∧ (i ≤ b ∨ i = a + 1) ∧ iv = .int .i64 i ∧ Hid (RowC wr g n cap h) ∧ Hid (RisF h a i) ∧ Hid (AlikeF f h a b) ∧ Hid (Kept [g] w wr)) (fun iv _ => b - (intOf iv).toNat)
  case atStart =>
    exact ⟨a + 1, f, Nat.le_refl _, .inr rfl, by go_num, HR, fun p q h1 h2 h3 => by omega, AlikeF.refl _ _ _, Kept.refl _ _⟩
  case round =>
    obtain ⟨i, h, hi1, hi2, rfl, HT, HS, HL, HK⟩ := hrel
    by_cases hlt : i < b
    · have hlt' : (i : Int) < b := by omega
      go_wp2_with fail
      go_loopw [9] (fun jv w2 => ∃ (j : Nat) (h' : Nat → Ch), a ≤ j ∧ j ≤ i ∧ jv = .int .i64 j ∧ Hid (RowC w2 g n cap h') ∧ Hid (InsJ h' a j i) ∧ Hid (AlikeF f h' a b) ∧ Hid (Kept [g] w w2)) (fun jv _ => (intOf jv).toNat)
      case atStart => exact ⟨i, h, by omega, Nat.le_refl _, rfl, HT, insJ_start HS.out, HL, HK⟩
      case round =>
        obtain ⟨j, h', hj1, hj2, rfl, HT2, HJ, HL2, HK2⟩ := hrel
        by_cases hja : j = a
        · have hja' : ¬ (a : Int) < j := by omega
          have HE : Hid (RisF h' a (i + 1)) := insJ_end HJ.out hj2 (.inl hja)
          have hd : decide (a < j) = false := by simp; omega
          clear hja
          go_wp2_with fail
          go_region
          go_wp2_with fail
          go_roundw
          case rel => exact ⟨i + 1, h', by omega, by omega, by go_num, HT2.out.drew, HE, HL2, HK2.out.drew⟩
          case measure => simp [intOf]; omega
        · obtain ⟨k, hk⟩ : ∃ k, j = k + 1 := ⟨j - 1, by omega⟩
          have HE : Hid (j = k + 1) := hk
          have hja' : (a : Int) < j := by omega
          have hd : decide (a < j) = true := by simp; omega
          have b1 : (0 : Int) ≤ j := by omega
          have b2 : (j : Int) < n := by omega
          have b3 : (0 : Int) ≤ k := by omega
          have b4 : (k : Int) < n := by omega
          have b5 : IntKind.i64.wrap ((j : Int) - 1) = k := by rw [IntWalk.i64_in _ (by omega)]; omega
          have hA := HT2.out.ch (i := j) (by omega)
          have hC := HT2.out.ch (i := k) (by omega)
          have hB2 := hB.alike HL2.out hb
          have cc := fun w' => cmp_call (h' j) (h' k) w' (hB2 _ (by omega)) (hB2 _ (by omega))
          obtain ⟨c0, c1, c2⟩ := hA
          obtain ⟨d0, d1, d2⟩ := hC
          clear hB2 hk
          go_wp2_with fail
          go_region_held3 (fun w' => w'.cell? ⟨g, j * 3, none⟩ = some (.string (str (h' j).p)) ∧ w'.cell? ⟨g, j * 3 + 1, none⟩ = some (.bool (h' j).g) ∧ w'.cell? ⟨g, j * 3 + 2, none⟩ = some (.int .u64 (h' j).d) ∧ w'.cell? ⟨g, k * 3, none⟩ = some (.string (str (h' k).p)) ∧ w'.cell? ⟨g, k * 3 + 1, none⟩ = some (.bool (h' k).g) ∧ w'.cell? ⟨g, k * 3 + 2, none⟩ = some (.int .u64 (h' k).d))
            (first | go_keep | exact ⟨hK1.cell c0 (by simp), hK1.cell c1 (by simp), hK1.cell c2 (by simp), hK1.cell d0 (by simp), hK1.cell d1 (by simp), hK1.cell d2 (by simp)⟩)
            (first | (go_at_call 20; refine (cc _).mono ?_; rintro e w1 ⟨rfl, hKb⟩; have hK1 : Kept [] wr w1 := (Kept.refl [] wr).drew.trans hKb (by simp)))
          have HT3 : Hid (RowC w1 g n cap h') := HT2.out.kept hK1 (by simp)
          have HK3 : Hid (Kept [g] w w1) := HK2.out.trans hK1 (by simp)
          by_cases hc : cmpT (h' j).p (h' k).p < 0
          · have hkj : k < j := by have := HE.out; omega
            have hfz := HT3.out.froz
            have e0 := hK1.cell c0 (by simp)
            have e1 := hK1.cell c1 (by simp)
            have e2 := hK1.cell c2 (by simp)
            have e3 := hK1.cell d0 (by simp)
            have e4 := hK1.cell d1 (by simp)
            have e5 := hK1.cell d2 (by simp)
            have HN : Hid (RowC (put3 (put3 w1 g j (h' k)) g k (h' j)).drew g n cap (swp h' j k)) := HT3.out.swapped (by omega) (by omega) (fun _ => rfl)
            have HC : Hid (cmpT (h' j).p (h' k).p < 0) := hc
            clear c0 c1 c2 d0 d1 d2 hKb hK1 cc
            go_wp2_with fail
            go_region
            go_wp2_with fail
            go_roundw
            case rel =>
              have hC := HC.out
              have hJ := HJ.out
              have hL := HL2.out
              have hE := HE.out
              subst hE
              exact ⟨k, _, by omega, by omega, by go_num, HN, insJ_step hJ (by omega) hj2 hC, hL.trans ((insJ_alike hC).wide (by omega) (by omega) (by omega)), HK3.out.trans (swapped_kept w1 g (k + 1) k (h' k) (h' (k + 1))) (by simp)⟩
            case measure => simp [intOf]; have := HE.out; omega
          · have HD : Hid (RisF h' a (i + 1)) := insJ_end HJ.out hj2 (.inr ⟨k, HE.out, by have := HE.out; omega, hc⟩)
            clear c0 c1 c2 d0 d1 d2 hKb hK1 cc
            go_wp2_with fail
            go_roundw
            case rel => exact ⟨i + 1, h', by omega, by omega, by go_num, HT3, HD, HL2, HK3⟩
            case measure => simp [intOf]; omega
    · have hlt' : ¬ (i : Int) < b := by omega
      go_wp2_with fail
      go_returns
      exact ⟨rfl, h, HT.out, fun p q h1 h2 h3 => HS.out p q h1 h2 (by omega), HL.out, HK.out⟩

end Go.Proofs.Ytdmlcgmajpjmdaa
