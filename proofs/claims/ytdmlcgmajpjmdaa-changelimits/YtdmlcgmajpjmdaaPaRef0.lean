/-
  The document's own parts.
-/
import Derived.Test.YtdmlcgmajpjmdaaPaOwn
namespace Go.Proofs.Ytdmlcgmajpjmdaa
open Go.RowKit

theorem ext_mid (L : List UInt8) (f i : Nat) : (str L).extract f i = str ((L.drop f).take (i - f)) := by
  rw [Lib.extract_eq, str_data]; rfl

theorem ext_end (L : List UInt8) (f : Nat) : (str L).extract f (str L).size = str (L.drop f) := by
  rw [Lib.extract_eq, str_data, str_size, List.take_of_length_le (by simp)]; rfl

theorem mid_end (L : List UInt8) (f i : Nat) (hf : f ≤ i) (hi : i < L.length) : L.drop f = (L.drop f).take (i - f) ++ L[i] :: L.drop (i + 1) := by
  have h1 := (List.take_append_drop (i - f) (L.drop f)).symm
  rw [List.drop_drop, show f + (i - f) = i from by omega, List.drop_eq_getElem_cons hi] at h1
  exact h1

theorem mid_hit (L : List UInt8) (f i : Nat) (hf : f ≤ i) (hi : i < L.length) (hc : L[i] = 47) : L.drop f = (L.drop f).take (i - f) ++ 47 :: L.drop (i + 1) := by
  have h := mid_end L f i hf hi
  rw [hc] at h
  exact h

theorem mid_succ (L : List UInt8) (f i : Nat) (hf : f ≤ i) (hi : i < L.length) : (L.drop f).take (i + 1 - f) = (L.drop f).take (i - f) ++ [L[i]] := by
  rw [show i + 1 - f = (i - f) + 1 from by omega, List.take_succ_eq_append_getElem (by simp; omega)]
  congr 2
  rw [List.getElem_drop]
  congr 1
  omega

set_option maxHeartbeats 4000000 in
set_option maxRecDepth 100000 in
theorem rparts_call (L : List UInt8) (w : World) (hl : L.length ≤ 100000000000) :
    Calls Try.prog 29 #[.string (str L)] w fun e w' => ∃ v, e = .returned v ∧ OwnS w.heap.size w' v (partsB L) ∧ Kept [] w w' := by
  have hsz : ((str L).size : Int) = L.length := by rw [str_size]
  go_enter Try.func29, Try.ntmps29
  go_wp2_with fail
  go_loopw [3, 4, 5] (fun v fv iv wr => ∃ (f i : Nat) (done : List (List UInt8)), fv = .int .i64 f ∧ iv = .int .i64 i ∧ f ≤ i ∧ i ≤ L.length ∧ done.length ≤ i ∧ OwnS w.heap.size wr v done ∧ partsB L = done ++ partsB (L.drop f) ∧ (47 : UInt8) ∉ (L.drop f).take (i - f) ∧ Kept [] w wr) (fun _ _ iv _ => L.length - (intOf iv).toNat)
  case atStart => exact ⟨0, 0, [], rfl, rfl, Nat.le_refl _, Nat.zero_le _, Nat.zero_le _, OwnS.nil _ _, rfl, by simp, Kept.refl _ _⟩
  case round =>
    obtain ⟨f, i, done, rfl, rfl, hfi, hiL, hd, hO, hp, hno, hK⟩ := hrel
    have hf' : (f : Int) ≤ i := by omega
    have hBw := hK.size
    by_cases hlt : i < L.length
    · have hlt' : i < (str L).size := by rw [str_size]; exact hlt
      have hget : (str L)[i] = L[i] := rfl
      have hmid := ext_mid L f i
      by_cases hc : L[i] = 47
      · have hb : (((str L)[i].toNat : Int) == 47) = true := by rw [hget, hc]; rfl
        go_wp2_with (at_builtin; refine wp_push rfl _ _ rfl w.heap.size u3 done rfl (World.ownsRow.alloc hO _) wr.heap.size ((L.drop f).take (i - f)) rfl ?c1 (by omega) (by simp; omega) ?_)
        case c1 => rw [World.cell?_alloc_mark]; rfl
        intro v' w' hO' hg
        have hK' := grown_kept (hK.alloc _) (World.ownsRow.alloc hO _) (Nat.le_refl _) hg
        clear hg
        go_wp2
        go_roundw
        case rel =>
          refine ⟨i + 1, i + 1, done ++ [(L.drop f).take (i - f)], by simp, by simp, Nat.le_refl _, by omega, by simp; omega, hO', ?_, by simp, hK'⟩
          rw [hp, List.append_assoc]
          congr 1
          conv => lhs; rw [mid_hit L f i hfi hlt hc]
          rw [partsB_hit _ _ hno]; rfl
        case measure => simp [intOf]; omega
      · have hb : ((L[i].toNat : Int) == 47) = false := by
          have : L[i].toNat ≠ 47 := fun e => hc (UInt8.toNat_inj.1 e)
          simp; omega
        go_wp2_with fail
        go_roundw
        case rel => exact ⟨f, i + 1, done, rfl, by simp, by omega, by omega, by omega, hO, hp, by rw [mid_succ L f i hfi hlt]; simp only [List.mem_append, List.mem_singleton, not_or]; exact ⟨hno, fun e => hc e.symm⟩, hK⟩
        case measure => simp [intOf]; omega
    · obtain rfl : i = L.length := by omega
      have hno' : (47 : UInt8) ∉ L.drop f := by rwa [List.take_of_length_le (by simp)] at hno
      rw [partsB_miss _ hno'] at hp
      have hend := ext_end L f
      have hfi' : (f : Int) ≤ L.length := by omega
      go_wp2_with (at_builtin; refine wp_push rfl _ _ rfl w.heap.size u3 done rfl (World.ownsRow.alloc hO _) wr.heap.size (L.drop f) rfl ?c2 (by omega) (by simp; omega) ?_)
      case c2 => rw [World.cell?_alloc_mark]; rfl
      intro v' w' hO' hg
      have hK' := grown_kept (hK.alloc _) (World.ownsRow.alloc hO _) (Nat.le_refl _) hg
      clear hg
      rw [← hp] at hO'
      go_wp2
      go_ret
      exact ⟨v', rfl, hO', hK'⟩

end Go.Proofs.Ytdmlcgmajpjmdaa
