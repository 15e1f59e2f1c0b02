/-
  The keys of a map of refs, sorted; a map of refs, cloned.
-/
import Derived.Test.YtfoghemiaidnhaaGreatLay
import Derived.Test.YtfoghemiaidnhaaGreatM7
namespace Go.Proofs.YtfoghemiaidnhaaGreat
open Go.RowKit Go.Maps Go.Sort Go.Shelf

theorem sortsZ (m : Nat) : AnyZ.SortsIn Tryz.prog Tryz.sortedZ_ren Fence.wide m :=
  ⟨fun blk off cap ss W hH hblk hsz => callsIn_wide.2 (AnyM.slices_Sort_string Tryz.sortZ blk off cap ss W hH hblk hsz),
   fun p cap W => callsIn_wide.2 (AnyM.slices_Sort_string_none Tryz.sortZ p cap W)⟩

theorem mkeys_call (mb : Option Nat) (W : World) : Calls Tryz.prog 36 #[.map mb] W fun e w' => e = .returned (.func (.func 70) #[] #[.pointer (some ⟨W.heap.size, 0, none⟩)]) ∧ w' = W.alloc (.cells #[.map mb] 67) :=
  callsIn_wide.1 (AnyZ.keys_in Tryz.keysZ Fence.wide 5 trivial rfl mb W)

set_option maxHeartbeats 1000000 in
theorem msorted_call {H : Type} (b nn : Nat) (D0 : DataW H) (R : Value → Option (DataW H × List MemPlace)) (w : World) (hown : w.ownsMap Tryz.prog 9 R b nn D0) (hmax : Maps.size D0 ≤ maxLen) (hbytes : Maps.size D0 * 16 ≤ 140737488355328) :
    Calls Tryz.prog 35 #[.func (.func 70) #[] #[.pointer (some ⟨w.heap.size, 0, none⟩)]] (w.alloc (.cells #[.map (some b)] 67)) fun e w' => ∃ (v : Value) (ss : List (List UInt8)), e = .returned v ∧ ss.Perm (strKeys D0) ∧
      w'.ownsRow (w.alloc (.cells #[.map (some b)] 67)).heap.size 9 1 v ss.length ((ss.mergeSort (fun x y => decide (x ≤ y))).map encStr) ∧ (v = .slice none 0 0 ↔ ss = []) ∧ Below (w.alloc (.cells #[.map (some b)] 67)).heap.size (w.alloc (.cells #[.map (some b)] 67)) w' := by
  have hbl := hown.lt
  have hseq : SeqGives Fence.wide 2 Tryz.prog 70 #[.pointer (some ⟨w.heap.size, 0, none⟩)] encStr (fun ss => ss.Perm (strKeys D0)) (Maps.size D0) (w.alloc (.cells #[.map (some b)] 67)) :=
    AnyZ.keys_gives (ρ := Tryz.keysZ_ren) { Tryz.keysZ with } Fence.wide _ trivial rfl (by omega) w.heap.size b nn D0 _ (by simp) (by simp) (by
      obtain ⟨es, clock, hb, Ft, hs, hD⟩ := hown
      exact ⟨es, clock, (Below.heap_alloc _ _ b hbl).trans hb, Ft, hs, hD⟩)
  exact callsIn_wide.1 (AnyZ.sorted_in Tryz.sortedZ Fence.wide 5 trivial trivial trivial trivial rfl (by omega) (sortsZ _) (enters_of Tryz.func69 (by kernel_rfl) rfl) 70 #[.pointer (some ⟨w.heap.size, 0, none⟩)] trivial (enters_of Tryz.func70 (by kernel_rfl) rfl) _ _ hmax hbytes _ hseq)

/-- The names of refs, sorted. -/
theorem names_call (w : World) (b : Nat) (l : List (List UInt8 × Int)) (hs : SrR l) (hl : l.length ≤ 1000000000) (hown : w.ownsMap Tryz.prog 9 mapR b l.length (rsD l)) :
    Calls Tryz.prog 35 #[.func (.func 70) #[] #[.pointer (some ⟨w.heap.size, 0, none⟩)]] (w.alloc (.cells #[.map (some b)] 67)) fun e w' => ∃ v, e = .returned v ∧
      w'.ownsRow w.heap.size 9 1 v l.length ((l.map (·.1)).map fun x => .string (str x)) ∧ Kept [] w w' := by
  refine (msorted_call b l.length (rsD l) mapR w hown (by rw [rsD_size]; unfold maxLen; omega) (by rw [rsD_size]; omega)).mono ?_
  rintro e w' ⟨v, ss, rfl, hp, hrow, _, hb⟩
  have hlen : ss.length = l.length := by rw [hp.length_eq, rsD_keys]; simp
  rw [keys_sorted hs hp, hlen] at hrow
  refine ⟨v, rfl, ?_, ((Kept.refl [] w).alloc _).trans (Kept.of_below (S := []) hb) (by simp)⟩
  obtain ⟨h1, h2⟩ := hrow
  refine ⟨h1, ?_⟩
  rcases h2 with h2 | ⟨g, cap, cur, hv, hg, r⟩
  · exact .inl h2
  · exact .inr ⟨g, cap, cur, hv, by simp at hg; omega, r⟩

theorem mclone_call (w : World) (b : Nat) (n : Nat) (D : DataW Unit) (hown : w.ownsMap Tryz.prog 9 mapR b n D) :
    Calls Tryz.prog 54 #[.map (some b)] w fun e w' => ∃ mb, e = .returned (.map (some mb)) ∧ w.heap.size ≤ mb ∧ w'.ownsMap Tryz.prog 9 mapR mb n D ∧ Kept [] w w' := by
  refine (AnyW.maps_Clone_owns Tryz.cloneZ 9 mapR b n D w hown).mono ?_
  rintro e w' ⟨rfl, h1, h2, h3⟩
  exact ⟨_, rfl, Nat.le_refl _, h1, Kept.of_below h3⟩

end Go.Proofs.YtfoghemiaidnhaaGreat
