/-
  Things to write or to read: what is read of them; room.
-/
import Derived.Test.YtfmklcnilmhnbaaArgs
import Derived.Test.YtfmklcnilmhnbaaAwake
import Derived.Deep.Slices
namespace Go.Proofs.Ytfmklcnilmhnbaa
open Go.RowKit

/-- A thing, as its cells hold it. -/
structure Th where
  d : Int
  n : Int
  x : Int
  s : ByteArray
  bo : Option Addr
  bn : Nat
  bc : Nat
  bl : List Int
  f : Bool

/-- A thing in memory, from the cell at block b, place o, on. -/
structure ThAt (w : World) (b o : Nat) (t : Th) : Prop where
  c0 : w.cell? ⟨b, o, none⟩ = some (.int .i64 t.d)
  c1 : w.cell? ⟨b, o + 1, none⟩ = some (.int .i64 t.n)
  c2 : w.cell? ⟨b, o + 2, none⟩ = some (.int .u64 t.x)
  c3 : w.cell? ⟨b, o + 3, none⟩ = some (.string t.s)
  c4 : w.cell? ⟨b, o + 4, none⟩ = some (.slice t.bo t.bn t.bc)
  c5 : w.cell? ⟨b, o + 5, none⟩ = some (.bool t.f)
  sl : Sl w t.bo t.bn t.bc t.bl
  oct : Oct t.bl
  x0 : 0 ≤ t.x
  x1 : t.x ≤ 18446744073709551615
  n0 : -9223372036854775808 ≤ t.n
  n1 : t.n ≤ 9223372036854775807
  d0 : -9223372036854775808 ≤ t.d
  d1 : t.d ≤ 9223372036854775807
  s1 : t.s.size ≤ 9223372036854775807

theorem ThAt.kept {a w : World} (h : Kept [] a w) {b o : Nat} {t : Th} (ht : ThAt a b o t) : ThAt w b o t :=
  ⟨h.cell ht.c0 (by simp), h.cell ht.c1 (by simp), h.cell ht.c2 (by simp), h.cell ht.c3 (by simp), h.cell ht.c4 (by simp), h.cell ht.c5 (by simp), Sl.kept h ht.sl (by simp), ht.oct, ht.x0, ht.x1, ht.n0, ht.n1, ht.d0, ht.d1, ht.s1⟩

/-- A slice of things. -/
def Things (w : World) (ao : Option Addr) (n c : Nat) (L : List Th) : Prop :=
  L.length = n ∧ n ≤ c ∧ c ≤ 9223372036854775807 ∧ ∀ i (hi : i < L.length), ∃ b o, ao = some ⟨b, o, none⟩ ∧ ThAt w b (o + i * 6) L[i]

theorem Things.kept {a w : World} (h : Kept [] a w) {ao : Option Addr} {n c : Nat} {L : List Th} (ht : Things a ao n c L) : Things w ao n c L :=
  ⟨ht.1, ht.2.1, ht.2.2.1, fun i hi => by obtain ⟨b, o, e, h1⟩ := ht.2.2.2 i hi; exact ⟨b, o, e, h1.kept h⟩⟩

theorem Things.some {w : World} {ao : Option Addr} {n c : Nat} {L : List Th} (ht : Things w ao n c L) (hn : 0 < n) :
    ∃ b o, ao = Option.some ⟨b, o, none⟩ ∧ ∀ i (hi : i < L.length), ThAt w b (o + i * 6) L[i] := by
  obtain ⟨b, o, e, _⟩ := ht.2.2.2 0 (by rw [ht.1]; exact hn)
  refine ⟨b, o, e, fun i hi => ?_⟩
  obtain ⟨b', o', e', h⟩ := ht.2.2.2 i hi
  rw [e] at e'
  cases e'
  exact h

/-- Few and small. -/
def roomy (L : List Th) : Bool := decide (L.length ≤ 300) && L.all fun t => decide (t.s.size ≤ 2000) && decide (t.bl.length ≤ 2000)

theorem not_roomy {L : List Th} {k : Nat} (hk : k < L.length) (h : (decide (L[k].s.size ≤ 2000) && decide (L[k].bl.length ≤ 2000)) = false) : roomy L = false := by
  unfold roomy
  have h1 : (L.all fun t => decide (t.s.size ≤ 2000) && decide (t.bl.length ≤ 2000)) = false := by
    rw [List.all_eq_false]
    exact ⟨L[k], List.getElem_mem hk, by rw [h]; simp⟩
  rw [h1]; simp

theorem roomy_at {L : List Th} (h : roomy L = true) {k : Nat} (hk : k < L.length) : L.length ≤ 300 ∧ L[k].s.size ≤ 2000 ∧ L[k].bl.length ≤ 2000 := by
  unfold roomy at h
  simp at h
  have := h.2 L[k] (List.getElem_mem hk)
  exact ⟨h.1, this.1, this.2⟩

set_option maxHeartbeats 2000000 in
theorem room_call (w : World) (ao : Option Addr) (n c : Nat) (L : List Th) (ht : Things w ao n c L) :
    Calls Try.prog 16 #[.slice ao n c] w fun r w' => r = .returned (.bool (roomy L)) ∧ w = w' := by
  have hn := ht.1
  subst hn
  have hm := ht.2.2.1
  have hc := ht.2.1
  by_cases hbig : 300 < L.length
  · have hb2 : (300 : Int) < (L.length : Int) := by omega
    have hr : roomy L = false := by unfold roomy; rw [decide_eq_false (by omega)]; rfl
    have HR : Hid (roomy L = false) := hr
    clear ht hr
    go_enter Try.func16, Try.ntmps16
    go_wp2
    go_ret
    exact ⟨by rw [HR.out]; rfl, rfl⟩
  · have hb2 : ¬ (300 : Int) < (L.length : Int) := by omega
    by_cases h0 : L.length = 0
    · have e1 : L = [] := by simpa using h0
      subst e1
      clear ht
      go_enter Try.func16, Try.ntmps16
      go_wp2
      refine wp_loop_rounds 1 ?_
      rw [rounds_succ]
      go_wp2
      go_ret
      exact ⟨rfl, rfl⟩
    · obtain ⟨b, o, rfl, hth⟩ := ht.some (by omega)
      have HT : Hid (∀ i (hi : i < L.length), ThAt w b (o + i * 6) L[i]) := hth
      clear ht hth
      go_enter Try.func16, Try.ntmps16
      go_wp2
      go_loop [3] (fun i => ∃ (k : Nat), k ≤ L.length ∧ i = .int .i64 k ∧ Hid ((L.take k).all (fun t => decide (t.s.size ≤ 2000) && decide (t.bl.length ≤ 2000)) = true)) (fun i => L.length - (intOf i).toNat)
      case atStart => exact ⟨0, Nat.zero_le _, rfl, rfl⟩
      case round =>
        obtain ⟨k, hk, rfl, HK⟩ := hrel
        by_cases hlt : k < L.length
        · have hT := HT.out k hlt
          generalize hq : L[k] = t at hT
          have HQ : Hid (L[k] = t) := hq
          obtain ⟨c0, c1, c2, c3, c4, c5, sl, oct, x0, x1, n0, n1, d0, d1, s1⟩ := hT
          have hbn := sl.1
          have HBN : Hid (t.bl.length = t.bn) := hbn
          have hbm := sl.2.2.1
          have hbc := sl.2.1
          unfold maxLen at hbm
          clear sl oct hq c0 c1 c2 c5 hbn
          clear x0 x1 n0 n1 d0 d1
          by_cases hs : 2000 < t.s.size
          · have hs' : (2000 : Int) < (t.s.size : Int) := by omega
            have HR : Hid (roomy L = false) := not_roomy hlt (by rw [HQ.out]; rw [decide_eq_false (by omega)]; rfl)
            go_wp2
            go_ret
            exact ⟨by rw [HR.out]; rfl, rfl⟩
          · have hs' : ¬ (2000 : Int) < (t.s.size : Int) := by omega
            by_cases hb : 2000 < t.bn
            · have hb' : (2000 : Int) < (t.bn : Int) := by omega
              have HR : Hid (roomy L = false) := not_roomy hlt (by rw [HQ.out, HBN.out]; rw [decide_eq_false (p := t.bn ≤ 2000) (by omega)]; simp)
              go_wp2
              go_ret
              exact ⟨by rw [HR.out]; rfl, rfl⟩
            · have hb' : ¬ (2000 : Int) < (t.bn : Int) := by omega
              go_wp2
              go_round
              case rel =>
                refine ⟨k + 1, by omega, by go_num, ?_⟩
                show (L.take (k + 1)).all _ = true
                rw [List.take_succ_eq_append_getElem hlt, List.all_append, HK.out, HQ.out]
                have h1 : t.s.size ≤ 2000 := by omega
                have h2 : t.bl.length ≤ 2000 := by rw [HBN.out]; omega
                simp [h1, h2]
              case measure => simp [intOf]; omega
        · have HR : Hid (roomy L = true) := by
            show roomy L = true
            have h1 := HK.out
            rw [List.take_of_length_le (by omega)] at h1
            unfold roomy
            rw [h1, decide_eq_true (by omega)]; rfl
          go_wp2
          go_ret
          exact ⟨by rw [HR.out]; rfl, rfl⟩

end Go.Proofs.Ytfmklcnilmhnbaa
