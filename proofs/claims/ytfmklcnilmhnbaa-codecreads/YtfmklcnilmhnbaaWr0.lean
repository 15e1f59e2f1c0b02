/-
  A writer's calls, by their contracts.
-/
import Derived.Test.YtfmklcnilmhnbaaRd0
import Derived.Test.YtfmklcnilmhnbaaPure
import Derived.Test.YtfmklcnilmhnbaaBits
import Derived.Test.YtfmklcnilmhnbaaApp
namespace Go.Proofs.Ytfmklcnilmhnbaa
open Go.RowKit

/-- A writer's block: what is written, what it failed by. -/
def WrAt (w : World) (p : Nat) (v : Value) (e : Int) : Prop := w.heap[p]? = some (.cells #[.bool true, v, .int .i64 e] 73 (0, 0))

theorem WrAt.cells {w : World} {p : Nat} {v : Value} {e : Int} (h : WrAt w p v e) :
    w.cell? ⟨p, 0, none⟩ = some (.bool true) ∧ w.cell? ⟨p, 1, none⟩ = some v ∧ w.cell? ⟨p, 2, none⟩ = some (.int .i64 e) ∧ (∀ o, w.frozen? ⟨p, o, none⟩ = false) := by
  unfold WrAt at h
  refine ⟨?_, ?_, ?_, fun o => ?_⟩ <;> simp [World.cell?, World.frozen?, h]

theorem WrAt.set1 {w : World} {p : Nat} {v : Value} {e : Int} (h : WrAt w p v e) (u : Value) : WrAt (w.setCell ⟨p, 1, none⟩ u) p u e := by
  have := at_setCell h 1 u
  simpa [WrAt] using this

theorem WrAt.set2 {w : World} {p : Nat} {v : Value} {e : Int} (h : WrAt w p v e) (x : Int) : WrAt (w.setCell ⟨p, 2, none⟩ (.int .i64 x)) p v x := by
  have := at_setCell h 2 (.int .i64 x)
  simpa [WrAt] using this

set_option maxHeartbeats 400000 in
theorem writes_any (w : World) (p : Nat) (v : Value) (e : Int) (h : WrAt w p v e) :
    Calls Try.prog 71 #[.pointer (some ⟨p, 0, none⟩)] w fun r w' => r = .returned (.bool (e == 0)) ∧ w = w' := by
  obtain ⟨h0, h1, h2, h3⟩ := h.cells
  clear h1 h3
  go_enter Try.func71, Try.ntmps71
  go_wp2
  go_ret
  exact ⟨rfl, rfl⟩

set_option maxHeartbeats 400000 in
theorem wfail_any (w : World) (p : Nat) (v : Value) (e x : Int) (h : WrAt w p v e) :
    Calls Try.prog 72 #[.pointer (some ⟨p, 0, none⟩), .int .i64 x] w fun r w' => r = .returned (.tuple #[]) ∧ WrAt w' p (.slice none 0 0) x ∧ Kept [p] w w' := by
  obtain ⟨h0, h1, h2, h3⟩ := h.cells
  go_enter Try.func72, Try.ntmps72
  go_wp2
  go_end0
  exact ⟨rfl, (h.set2 x).set1 _, ((Kept.refl _ _).setCell (by simp) _).setCell (by simp) _⟩

/-- Bytes owned by a slice value, whose block is g. -/
def Own (w : World) (v : Value) (l : List Int) : Prop := w.ownsRow 0 5 1 v l.length (l.map (Value.int .u8))

theorem own_trans {v v1 v2 : Value} {N M : Nat} (h1 : ∀ k, v1.ownBlock = some k → v.ownBlock = some k ∨ N ≤ k) (h2 : ∀ k, v2.ownBlock = some k → v1.ownBlock = some k ∨ M ≤ k) (h : N ≤ M) :
    ∀ k, v2.ownBlock = some k → v.ownBlock = some k ∨ N ≤ k := by
  intro k hk
  rcases h2 k hk with h3 | h3
  · exact h1 k h3
  · exact .inr (by omega)

theorem own_kept {v v1 : Value} {w wr w1 : World} {o : Obj} (h1 : ∀ k, v1.ownBlock = some k → v.ownBlock = some k ∨ w.heap.size ≤ k) (hk : Kept v.ownBlock.toList w wr) (hg : (wr.alloc o).grownBy w1 v1.ownBlock) : Kept v.ownBlock.toList w w1 :=
  (hk.alloc o).grown hg (fun k e => by
    rcases h1 k e with h | h
    · exact .inl (by rw [h]; simp)
    · exact .inr h)

set_option maxHeartbeats 1000000 in
theorem appendNumber_any (w : World) (v : Value) (l : List Int) (n : Int) (ho : Own w v l) (h0 : 0 ≤ n) (h1 : n ≤ 1099511627776) (hl : l.length ≤ 1000000000) :
    Calls Try.prog 73 #[v, .int .i64 n] w fun r w' => ∃ v', r = .returned v' ∧ Own w' v' (l ++ encNum n) ∧ (∀ k, v'.ownBlock = some k → v.ownBlock = some k ∨ w.heap.size ≤ k) ∧ Kept v.ownBlock.toList w w' := by
  obtain ⟨i0, hi, hz0, hz1, hz2⟩ := info_parts info_u8
  have HO : Hid (Own w v l) := ho
  clear ho
  go_enter Try.func73, Try.ntmps73
  go_wp2
  go_loopw [0, 1] (fun o t wr => ∃ (f : Nat) (m : Int) (L : List Int), f ≤ 5 ∧ t = .int .i64 m ∧ 0 ≤ m ∧ m ≤ 1099511627776 ∧ m < 128 ^ (f + 1) ∧ L ++ enc f m = l ++ encNum n ∧ L.length ≤ 1000000005 - f ∧ Own wr o L ∧ (∀ k, o.ownBlock = some k → v.ownBlock = some k ∨ w.heap.size ≤ k) ∧ Kept v.ownBlock.toList w wr)
    (fun _ t _ => (intOf t).toNat)
  case atStart => exact ⟨5, n, l, by omega, rfl, h0, h1, by omega, rfl, by omega, HO.out, fun k hk => .inl hk, Kept.refl _ _⟩
  case round =>
    obtain ⟨f, m, L, hf, rfl, hm0, hm1, hm2, hL, hLl, hO, hfr, hk⟩ := hrel
    by_cases h128 : 128 ≤ m
    · have HO1 : Hid (Own wr u0 L) := hO
      clear hO
      go_wp2_with (at_builtin; refine wpList_append2 _ rfl _ _ 25 rfl 5 i0 (.int .u8 0) 1 1 Try.underlying25 hi hz0 hz1 hz2 rfl (by decide) _ L.length (L.map (Value.int .u8)) rfl (World.ownsRow.alloc HO1.out _) ⟨wr.heap.size, 0, none⟩ 1 1 [.int .u8 (m % 128 + 128)] rfl rfl ?c1 ?c2 ?c3 ?c4 ?_)
      case c1 =>
        intro j u hj
        match j, hj with
        | 0, hj => simp at hj; subst hj; simp [Addr.add]; rw [u8_or128r (by omega) (by omega)]; omega
      case c2 => intro u hu; simp at hu; subst hu; rfl
      case c3 => unfold maxLen; omega
      case c4 => omega
      intro v' w1 hown hgrow hfr'
      go_wp2
      go_roundw
      case rel =>
        obtain ⟨g, rfl⟩ : ∃ g, f = g + 1 := by
          cases f with
          | zero => simp at hm2; omega
          | succ g => exact ⟨g, rfl⟩
        refine ⟨g, m / 128, L ++ [m % 128 + 128], by omega, rfl, by omega, by omega, ?_, ?_, by simp; omega, ?_, own_trans hfr hfr' (by have := hk.size; simp; omega), own_kept hfr hk hgrow⟩
        · rw [Int.pow_succ] at hm2
          exact Int.ediv_lt_of_lt_mul (by decide) hm2
        · rw [← hL, enc_great _ _ h128]; simp
        · unfold Own; simpa using hown
      case measure => simp [intOf]; omega
    · have HO1 : Hid (Own wr u0 L) := hO
      clear hO
      go_wp2_with (at_builtin; refine wpList_append2 _ rfl _ _ 25 rfl 5 i0 (.int .u8 0) 1 1 Try.underlying25 hi hz0 hz1 hz2 rfl (by decide) _ L.length (L.map (Value.int .u8)) rfl (World.ownsRow.alloc HO1.out _) ⟨wr.heap.size, 0, none⟩ 1 1 [.int .u8 m] rfl rfl ?d1 ?d2 ?d3 ?d4 ?_)
      case d2 => first | rfl | (intro u hu; simp at hu; subst hu; rfl)
      case d3 => unfold maxLen; omega
      case d4 => omega
      intro v' w1 hown hgrow hfr'
      go_wp2
      go_ret
      refine ⟨v', rfl, ?_, own_trans hfr hfr' (by have := hk.size; simp; omega), own_kept hfr hk hgrow⟩
      rw [← hL, enc_small _ _ (by omega)]
      unfold Own; simpa using hown

end Go.Proofs.Ytfmklcnilmhnbaa
