/-
  What a change makes of members; who the members of a slot are.
-/
import Derived.Test.YtddkaagdkmmknabEpMostP
namespace Go.Proofs.Ytddkaagdkmmknab

theorem upd_mem {m : List Int} {q : Nat} {add : Bool} (hq : q < 15) : decide ((q : Int) ∈ told (updB (setB m) q add)) = add := by
  have h : (q : Int) ∈ told (updB (setB m) q add) ↔ add = true := by
    rw [mem_told]
    refine ⟨fun ⟨k, e, _, h⟩ => ?_, fun h => ⟨q, rfl, hq, by simpa [updB] using h⟩⟩
    obtain rfl : q = k := by omega
    simpa [updB] using h
  rw [Bool.eq_iff_iff, decide_eq_true_eq]
  exact h

theorem told_nodup (S : Nat → Bool) : (told S).Nodup := (told_rise S).imp (fun h => by omega)

theorem len_add {m : List Int} {q : Nat} (hm : May m) (hq : q < 15) (h : setB m q = false) : (told (updB (setB m) q true)).length = m.length + 1 := by
  have hn : (q : Int) ∉ m := by simpa [setB] using h
  have h1 : ((q : Int) :: m).Nodup := List.nodup_cons.2 ⟨hn, may_nodup hm⟩
  refine Nat.le_antisymm (len_le (m := (q : Int) :: m) (told_nodup _) fun x hx => ?_) (len_le h1 fun x hx => ?_)
  · obtain ⟨k, rfl, _, h2⟩ := mem_told.1 hx
    by_cases e : k = q
    · subst e; simp
    · simp only [updB, if_neg e, setB, decide_eq_true_eq] at h2
      simp [h2]
  · rw [mem_told]
    rcases List.mem_cons.1 hx with rfl | hx
    · exact ⟨q, rfl, hq, by simp [updB]⟩
    · have h2 := hm.2.2 x hx
      refine ⟨x.toNat, by omega, by omega, ?_⟩
      by_cases e : x.toNat = q
      · simp [updB, e]
      · simp only [updB, if_neg e, setB, decide_eq_true_eq]
        rw [show ((x.toNat : Nat) : Int) = x by omega]
        exact hx

theorem len_drop {m : List Int} {q : Nat} : (told (updB (setB m) q false)).length ≤ m.length :=
  len_le (told_nodup _) fun x hx => by
    obtain ⟨k, rfl, _, h2⟩ := mem_told.1 hx
    by_cases e : k = q
    · simp [updB, e] at h2
    · simpa [updB, e, setB] using h2

theorem at_one (m : List Int) (z : Int) : atL [⟨0, m⟩] z = m := by
  unfold atL plc cntL
  by_cases h : 0 ≤ z <;> simp [h]

theorem at_ahead {m m2 : List Int} {f z : Int} (h : 0 ≤ z) (h2 : z < f) : atL [⟨0, m⟩, ⟨f, m2⟩] z = m := by
  unfold atL plc cntL
  have : ¬ f ≤ z := by omega
  simp [h, this]

theorem at_behind {m m2 : List Int} {f z : Int} (h : 0 ≤ z) (h2 : f ≤ z) : atL [⟨0, m⟩, ⟨f, m2⟩] z = m2 := by
  unfold atL plc cntL
  simp [h, h2]

end Go.Proofs.Ytddkaagdkmmknab
