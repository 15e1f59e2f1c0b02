/-
  The document's own answer: Unframe, by its contract.
-/
import Derived.Test.YtfmklcnilmhnbaaRef1
namespace Go.Proofs.Ytfmklcnilmhnbaa
open Go.RowKit

theorem summed8 (l : List Int) (h : ¬ l.length < 8) : summed (l.take 8) = (rdHi ((l.take 8).drop 4) == (crcOf (l.take 4) : Int)) := by
  have e : (l.take 8).length = 8 := by simp; omega
  unfold summed
  rw [e]
  have e2 : (l.take 8).take (8 - 4) = l.take 4 := by rw [List.take_take]; rfl
  rw [e2]

theorem summedB (l : List Int) (x : Nat) (h : x + 12 ≤ l.length) : summed ((l.take (x + 12)).drop 8) = (rdHi ((l.take (x + 12)).drop (x + 8)) == (crcOf ((l.take (x + 8)).drop 8) : Int)) := by
  have e : ((l.take (x + 12)).drop 8).length = x + 4 := by simp; omega
  unfold summed
  rw [e]
  have e2 : ((l.take (x + 12)).drop 8).drop (x + 4 - 4) = (l.take (x + 12)).drop (x + 8) := by rw [List.drop_drop]; congr 1; omega
  have e3 : ((l.take (x + 12)).drop 8).take (x + 4 - 4) = (l.take (x + 8)).drop 8 := by
    rw [List.take_drop, List.take_take]; congr 2; omega
  rw [e2, e3]

/-- A cut from a place that is reckoned, as the walk writes it. -/
theorem Sl.cutv {w : World} {ao : Option Addr} {n c : Nat} {l : List Int} (hs : Sl w ao n c l) {k m : Nat} (h : k ≤ m) (hm : m ≤ n) : Sl w (Option.map (fun x => x.add k) ao) (m - k) (c - k) ((l.take m).drop k) :=
  (hs.take hm).drop h

/-- A cut between two places that are reckoned. -/
theorem slice_lh (w : World) (ao : Option Addr) (n c : Nat) (lo hi : Int) (h0 : 0 ≤ lo) (h1 : lo ≤ hi) (h2 : hi ≤ (c : Int)) (hne : ¬ c = lo.toNat) :
    (Instr.slice 25 (.slice ao n c) (some (.int .i64 lo)) (some (.int .i64 hi)) none).run Try.prog w = .ok (.slice (Option.map (fun x => x.add lo.toNat) ao) (hi.toNat - lo.toNat) (c - lo.toNat)) w := by
  obtain ⟨i0, hi0, hz0, hz1, hz2⟩ := info_parts info_u8
  have he : Try.prog.elem 25 = 5 := by kernel_rfl
  have hu : Try.prog.underlying 25 = some (.slice (Try.prog.elem 25)) := by rw [he]; exact Try.underlying25
  rw [run_slice_lh w _ ao n c hu .i64 .i64 lo hi h0 h1 h2, he]
  have hsz : (Go.sizeOf 5).run Try.prog w = .ok 1 w := by simp [Go.sizeOf, typeInfo, hi0, hz1]
  rw [hsz]
  simp [sliced, hne, Result.andThen]
  done

set_option maxRecDepth 100000 in
set_option maxHeartbeats 2000000 in
theorem runframe_call (w : World) (ao : Option Addr) (n c : Nat) (l : List Int) (hs : Sl w ao n c l) (ho : Oct l) :
    Calls Try.prog 32 #[.slice ao n c] w fun r w' => ∃ a n' c', r = .returned (.tuple #[.slice a n' c', .int .i64 (unframe l).2.1, .int .i64 (unframe l).2.2]) ∧ Made w a n' c' (unframe l).1 w' := by
  have hn := hs.1
  subst hn
  have hm := hs.2.2.1
  have hc := hs.2.1
  unfold maxLen at hm
  have HS : Hid (Sl w ao l.length c l) := hs
  clear hs
  by_cases h8 : l.length < 8
  · have h8' : (l.length : Int) < 8 := by omega
    have HE : Hid (unframe l = ([], 0, 2)) := unframe_short l h8
    go_enter Try.func32, Try.ntmps32
    go_wp2
    go_ret3
    rw [HE.out]
    exact ⟨none, 0, 0, rfl, Made.nil (Kept.refl _ _)⟩
  · have h8' : ¬ (l.length : Int) < 8 := by omega
    have h8n : ¬ l.length < 8 := h8
    have hs4 : Sl w ao 4 c (l.take 4) := HS.out.take (by omega)
    have HS4 : Hid (Sl w ao 4 c (l.take 4)) := hs4
    have HS48 : Hid (Sl w (Option.map (fun x => ({ block := x.block, off := x.off + 4 } : Addr)) ao) (8 - 4) (c - 4) ((l.take 8).drop 4)) := HS.out.cut (by omega) (by omega) (by omega)
    clear hs4
    have hbd := hiB4_rdHi (l.take 4) (by simp; omega) (ho.take 4)
    obtain ⟨X, hX⟩ : ∃ X, X = rdHi (l.take 4) := ⟨_, rfl⟩
    rw [← hX] at hbd
    obtain ⟨hX0, hX1, _⟩ := hbd
    have HX : Hid (X = rdHi (l.take 4)) := hX
    have hsb := summed8 l h8n
    have HSB : Hid (summed (l.take 8) = (rdHi ((l.take 8).drop 4) == (crcOf (l.take 4) : Int))) := hsb
    have hc4 : ¬ c = 4 := by omega
    have hc8 : (8 : Int) ≤ (c : Int) := by omega
    have hc44 : (4 : Int) ≤ (c : Int) := by omega
    clear hX h8 hsb
    go_enter Try.func32, Try.ntmps32
    go_wp2
    go_quiet (first
      | (go_at_call 75; exact Calls.quiet_of (back_call _ _ _ _ _ (HS48.out.drewN _) ((ho.take _).drop _) rfl))
      | (go_at_call 33; exact quiet_eq (rcrc_call _ _ _ _ _ (HS4.out.drewN _) (ho.take _))))
    generalize rdHi ((l.take 8).drop 4) = Y at HSB ⊢
    generalize crcOf (l.take 4) = Z at HSB ⊢
    by_cases hYZ : Y = (Z : Int)
    · have hb : (Y != (Z : Int)) = false := by simp [hYZ]
      have HSU : Hid (¬ summed (l.take 8) = false) := by show ¬ summed (l.take 8) = false; rw [HSB.out]; simp [hYZ]
      clear hYZ HSB
      go_wp2_with fail
      refine (back_call _ _ _ _ _ (HS4.out.drewN _) (ho.take 4) rfl).mono ?_
      rintro _ w5 ⟨rfl, q2, hw5⟩
      have hK5 : Kept [] w w5 := by rw [hw5]; exact ((Kept.refl _ _).drewN _).drewN _
      have HS5 : Hid (Sl w5 ao l.length c l) := Sl.kept hK5 HS.out (by simp)
      clear hw5
      rw [← HX.out]
      by_cases hbig : 1048576 < X
      · have HE : Hid (unframe l = ([], 0, 3)) := unframe_long l h8n HSU.out (by rw [← HX.out]; exact hbig)
        go_wp2
        go_ret3
        rw [HE.out]
        exact ⟨none, 0, 0, rfl, Made.nil hK5⟩
      · by_cases hsh : (l.length : Int) < X + 12
        · have HE : Hid (unframe l = ([], 0, 2)) := unframe_short2 l h8n HSU.out (by rw [← HX.out]; exact hbig) (by rw [← HX.out]; exact hsh)
          go_wp2
          go_ret3
          rw [HE.out]
          exact ⟨none, 0, 0, rfl, Made.nil hK5⟩
        · have hcx : ¬ c = (X + 8).toNat := by omega
          have hc8' : ¬ c = 8 := by omega
          have hx12 : (X + 12).toNat ≤ l.length := by omega
          have hx8 : (X + 8).toNat ≤ l.length := by omega
          have hci : X + 12 ≤ (c : Int) := by omega
          have hci2 : X + 8 ≤ (c : Int) := by omega
          have hci3 : (8 : Int) ≤ X + 8 := by omega
          have hci4 : X + 8 ≤ X + 12 := by omega
          have hx80 : 0 ≤ X + 8 := by omega
          have hx120 : 0 ≤ X + 12 := by omega
          have HS2 : Hid (Sl w5 (Option.map (fun x => x.add (X + 8).toNat) ao) ((X + 12).toNat - (X + 8).toNat) (c - (X + 8).toNat) ((l.take (X + 12).toNat).drop (X + 8).toNat)) := HS5.out.cutv (by omega) hx12
          have HS3 : Hid (Sl w5 (Option.map (fun x => ({ block := x.block, off := x.off + 8 } : Addr)) ao) ((X + 8).toNat - 8) (c - 8) ((l.take (X + 8).toNat).drop 8)) := HS5.out.cut (by omega) (by omega) hx8
          have h124 : (X + 12).toNat - (X + 8).toNat = 4 := by omega
          have H124 : Hid ((X + 12).toNat - (X + 8).toNat = 4) := h124
          clear h124 hx12 hx8
          have HSB2 : Hid (summed ((l.take (X.toNat + 12)).drop 8) = (rdHi ((l.take (X + 12).toNat).drop (X + 8).toNat) == (crcOf ((l.take (X + 8).toNat).drop 8) : Int))) := by
            have h1 := summedB l X.toNat (by omega)
            have h2 : X.toNat + 12 = (X + 12).toNat := by omega
            have h3 : X.toNat + 8 = (X + 8).toNat := by omega
            rw [h2, h3] at h1
            show summed ((l.take (X.toNat + 12)).drop 8) = _
            rw [h2]; exact h1
          have hw8 : IntKind.i64.wrap (X + 8) = X + 8 := IntWalk.i64_in _ (by omega)
          have hw12 : IntKind.i64.wrap (X + 12) = X + 12 := IntWalk.i64_in _ (by omega)
          have hsl := fun wx => slice_lh wx ao l.length c (X + 8) (X + 12) hx80 hci4 hci hcx
          go_wp2
          go_quiet (first
            | (go_at_call 75; exact Calls.quiet_of (back_call _ _ _ _ _ (HS2.out.drewN _) ((ho.take _).drop _) H124.out))
            | (go_at_call 33; exact quiet_eq (rcrc_call _ _ _ _ _ (HS3.out.drewN _) ((ho.take _).drop _))))
          generalize rdHi ((l.take (X + 12).toNat).drop (X + 8).toNat) = Y2 at HSB2 ⊢
          generalize crcOf ((l.take (X + 8).toNat).drop 8) = Z2 at HSB2 ⊢
          by_cases hYZ2 : Y2 = (Z2 : Int)
          · have hb2 : (Y2 != (Z2 : Int)) = false := by simp [hYZ2]
            have HE : Hid (unframe l = ((l.take (X + 8).toNat).drop 8, X + 12, 0)) := by
              have h1 := unframe_ok l h8n HSU.out (by rw [← HX.out]; omega) (by rw [← HX.out]; omega) (by rw [← HX.out, HSB2.out]; simp [hYZ2])
              rw [← HX.out, show 8 + X.toNat = (X + 8).toNat by omega] at h1
              exact h1
            clear hYZ2 HSB2
            go_wp2_with fail
            refine (copy_call _ _ _ _ _ (HS3.out.drewN _) (by omega)).mono ?_
            rintro _ w3 ⟨v3, rfl, hO3, hf3, hk3⟩
            obtain ⟨a3, n3, c3, rfl, hs3, hb3⟩ := own_sl hO3
            have HM : Hid (Made w a3 n3 c3 ((l.take (X + 8).toNat).drop 8) w3) := ⟨hs3, fun k hk => ⟨Nat.le_trans hK5.size (hf3 k (hb3 k hk).2), (hb3 k hk).1⟩, (hK5.drewN _).trans hk3 (by simp)⟩
            clear hs3 hb3 hk3 hO3 hf3
            go_wp2
            go_ret3
            rw [HE.out]
            exact ⟨a3, _, c3, rfl, HM.out⟩
          · have hb2 : (Y2 != (Z2 : Int)) = true := by simp [hYZ2]
            have HE : Hid (unframe l = ([], 0, 5)) := unframe_sum2 l h8n HSU.out (by rw [← HX.out]; omega) (by rw [← HX.out]; omega) (by rw [← HX.out, HSB2.out]; simp [hYZ2])
            clear hYZ2 HSB2
            go_wp2
            go_ret3
            rw [HE.out]
            exact ⟨none, 0, 0, rfl, Made.nil (hK5.drewN _)⟩
    · have hb : (Y != (Z : Int)) = true := by simp [hYZ]
      have HE : Hid (unframe l = ([], 0, 5)) := unframe_sum1 l h8n (by rw [HSB.out]; simp [hYZ])
      clear hYZ HSB
      go_wp2
      go_ret3
      rw [HE.out]
      exact ⟨none, 0, 0, rfl, Made.nil ((Kept.refl _ _).drewN _)⟩

end Go.Proofs.Ytfmklcnilmhnbaa
