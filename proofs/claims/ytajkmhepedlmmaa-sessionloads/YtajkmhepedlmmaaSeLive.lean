/-
  Tables that were made behind a world; awake.
-/
import Derived.Test.YtajkmhepedlmmaaSeDone
namespace Go.Proofs.Ytajkmhepedlmmaa
open Go.RowKit

/-- A table that was made behind w0. -/
def LiveT (w0 w : World) (b sz : Nat) (L : List Se) : Prop :=
  ∃ v X, TbA w b sz v X L ∧ Kept [] w0 w ∧ w0.heap.size ≤ b ∧ (∀ k, v.ownBlock = some k → w0.heap.size ≤ k) ∧ L.length ≤ sz ∧ sz ≤ 16 ∧ ∀ x ∈ L, okS x

theorem LiveT.kept {w0 w w' : World} {b sz : Nat} {L : List Se} (h : LiveT w0 w b sz L) (k : Kept [] w w') : LiveT w0 w' b sz L := by
  obtain ⟨v, X, h1, h2, h3, h4, h5⟩ := h
  exact ⟨v, X, h1.kept k, h2.trans k (by simp), h3, h4, h5⟩

theorem LiveT.keeps {w0 w : World} {b sz : Nat} {L : List Se} (h : LiveT w0 w b sz L) : Kept [] w0 w := by
  obtain ⟨v, X, h1, h2, _⟩ := h; exact h2

theorem LiveT.made {w0 w : World} {b sz : Nat} {L : List Se} (h : LiveT w0 w b sz L) : w0.heap.size ≤ b := by
  obtain ⟨v, X, h1, h2, h3, _⟩ := h; exact h3

theorem LiveT.pos {w0 w : World} {b sz : Nat} {L : List Se} (h : LiveT w0 w b sz L) : 1 ≤ sz ∧ sz ≤ 16 ∧ L.length ≤ sz := by
  obtain ⟨v, X, h1, _, _, _, h5, h6, _⟩ := h; exact ⟨h1.pos, h6, h5⟩

theorem LiveT.lt {w0 w : World} {b sz : Nat} {L : List Se} (h : LiveT w0 w b sz L) : b < w.heap.size := by
  obtain ⟨v, X, h1, _⟩ := h; exact lt_of_at h1.at_

theorem LiveT.at {w0 w : World} {b sz : Nat} {L : List Se} (h : LiveT w0 w b sz L) : ∃ vs, w.heap[b]? = some (.cells vs 68 (0, 0)) := by
  obtain ⟨v, X, h1, _⟩ := h; exact ⟨_, h1.at_⟩

/-- What is behind a change of a table. -/
theorem liveT_step {w0 w w' : World} {b sz : Nat} {v : Value} {L' : List Se} (h2 : Kept [] w0 w) (h3 : w0.heap.size ≤ b) (h4 : ∀ k, v.ownBlock = some k → w0.heap.size ≤ k) (h6 : sz ≤ 16) (hP : TbP w b sz v L' w') (hl : L'.length ≤ sz) (hok : ∀ x ∈ L', okS x) : LiveT w0 w' b sz L' ∧ Kept [b] w w' := by
  obtain ⟨v', X', g1, g2, g3⟩ := hP
  refine ⟨⟨v', X', g1, h2.trans g2 (fun k hk => .inr (by simp at hk; omega)), h3, fun k hk => ?_, hl, h6, hok⟩, g2⟩
  rcases g3 k hk with e | e
  · exact h4 k e
  · exact Nat.le_trans h2.size e

theorem liveT_open {w0 w : World} {b sz : Nat} {L : List Se} (h : LiveT w0 w b sz L) (n : List UInt8) (hn : n.length ≤ 140737488351232) (id : Int) :
    Calls Try.prog 11 #[.pointer (some ⟨b, 0, none⟩), .string (str n), .int .i64 id] w fun e w' => e = .returned (.int .i64 (openI n id L)) ∧ LiveT w0 w' b sz (openL sz n id L) ∧ Kept [b] w w' := by
  obtain ⟨v, X, h1, h2, h3, h4, h5, h6, h7⟩ := h
  exact (open_call h1 h5 (by omega) n hn id).mono fun e w' ⟨g1, g2⟩ => ⟨g1, liveT_step h2 h3 h4 h6 g2 (openL_length h5 h1.pos) (ok_openL h7 hn)⟩

/-- What an answer of Ask is. -/
def AskE (w : World) (p : Vt × Bool) (e : Ending) (w' : World) : Prop := ∃ ao n c, e = .returned (.tuple #[vtV p.1 (.slice ao n c), .bool p.2]) ∧ KoO w.heap.size w' (.slice ao n c) p.1.k

theorem liveT_ask {w0 w : World} {b sz : Nat} {L : List Se} (h : LiveT w0 w b sz L) (id seq : Int) :
    Calls Try.prog 12 #[.pointer (some ⟨b, 0, none⟩), .int .i64 id, .int .i64 seq] w fun e w' => AskE w (askV id seq L) e w' ∧ LiveT w0 w' b sz (askL id L) ∧ Kept [b] w w' := by
  obtain ⟨v, X, h1, h2, h3, h4, h5, h6, h7⟩ := h
  refine (ask_call h1 (by omega) h7 id seq).mono fun e w' ⟨u, g1, g0, g2⟩ => ⟨?_, liveT_step h2 h3 h4 h6 g2 (by rw [askL_length]; exact h5) (ok_askL h7)⟩
  obtain ⟨ao, n, c, rfl⟩ := g0.ko.one
  exact ⟨ao, n, c, g1, g0⟩

theorem liveT_done {w0 w : World} {b sz : Nat} {L : List Se} (h : LiveT w0 w b sz L) (id seq : Int) (d : Vt) (u : Value) (hu : KoV w u d.k) (hd : okV d) :
    Calls Try.prog 18 #[.pointer (some ⟨b, 0, none⟩), .int .i64 id, .int .i64 seq, vtV d u] w fun e w' => e = .returned (.bool (doneI id seq L).isSome) ∧ LiveT w0 w' b sz (doneL id seq d L) ∧ Kept [b] w w' := by
  obtain ⟨v, X, h1, h2, h3, h4, h5, h6, h7⟩ := h
  exact (done_call h1 (by omega) id seq d u hu hd).mono fun e w' ⟨g1, g2⟩ => ⟨g1, liveT_step h2 h3 h4 h6 g2 (by rw [doneL_length]; exact h5) (ok_doneL h7 hd)⟩

theorem liveT_all {w0 w : World} {b sz : Nat} {L : List Se} (h : LiveT w0 w b sz L) :
    Calls Try.prog 24 #[.pointer (some ⟨b, 0, none⟩)] w fun e w' => CopS w L e w' := by
  obtain ⟨v, X, h1, h2, h3, h4, h5, h6, h7⟩ := h
  exact all_call h1 (by omega) h7

theorem liveT_find {w0 w : World} {b sz : Nat} {L : List Se} (h : LiveT w0 w b sz L) (id : Int) :
    Calls Try.prog 20 #[.pointer (some ⟨b, 0, none⟩), .int .i64 id] w fun e w' => FindP w id L e w' := by
  obtain ⟨v, X, h1, h2, h3, h4, h5, h6, h7⟩ := h
  exact find_call h1 (by omega) h7 id

theorem LiveT.new (w : World) {sz : Nat} (h1 : 1 ≤ sz) (h2 : sz ≤ 16) : LiveT w (w.alloc (.cells #[.int .i64 sz, .slice none 0 0] 68)) w.heap.size sz [] :=
  ⟨_, [], TbA.new w sz h1, (Kept.refl _ _).alloc _, Nat.le_refl _, fun k hk => by simp [Value.ownBlock] at hk, Nat.zero_le _, h2, fun x hx => by simp at hx⟩

/-- New of a size that may be. -/
theorem liveT_new (w : World) (sz : Nat) (h1 : 1 ≤ sz) (h2 : sz ≤ 16) :
    Calls Try.prog 10 #[.int .i64 sz] w fun e w' => ∃ b, e = .returned (.tuple #[.pointer (some ⟨b, 0, none⟩), .int .i64 0]) ∧ LiveT w w' b sz [] := by
  refine (newT_call w sz).mono fun e w' h => ?_
  rcases h with ⟨_, _, he, rfl⟩ | ⟨h, _⟩
  · exact ⟨_, he, LiveT.new w h1 h2⟩
  · omega

theorem newT_bad (w : World) (size : Int) (h : ¬ (1 ≤ size ∧ size ≤ 16)) :
    Calls Try.prog 10 #[.int .i64 size] w fun e w' => e = .returned (.tuple #[.pointer none, .int .i64 1]) ∧ w' = w := by
  refine (newT_call w size).mono fun e w' h2 => ?_
  rcases h2 with ⟨h3, h4, _⟩ | ⟨_, h3⟩
  · exact absurd ⟨h3, h4⟩ h
  · exact h3

set_option maxHeartbeats 4000000 in
set_option maxRecDepth 100000 in
theorem awakeT_call (w : World) : Calls Try.prog 9 #[] w fun e w' => e = .returned (.bool true) ∧ Kept [] w w' := by
  have cN := liveT_new w 1 (by omega) (by omega)
  rw [show ((1 : Nat) : Int) = 1 from rfl] at cN
  go_enter Try.func9, Try.ntmps9
  go_wp2_with fail
  refine cN.mono ?_
  rintro _ w1 ⟨b, rfl, h1⟩
  have cO := liveT_open h1 [97] (by simp) 1
  rw [show openI [97] 1 [] = 1 from rfl] at cO
  unfold str at cO
  clear h1 cN
  go_wp2_with fail
  refine cO.mono ?_
  rintro _ w2 ⟨rfl, h2, _⟩
  have cA := liveT_ask h2 1 1
  clear cO h2
  go_wp2_with fail
  refine cA.mono ?_
  rintro _ w3 ⟨⟨a3, n3, c3, rfl, _⟩, h3, _⟩
  rw [show askV 1 1 (openL 1 [97] 1 []) = (vtC 0, false) from by decide]
  rw [show askL 1 (openL 1 [97] 1 []) = [⟨1, 0, [97], vtC 0⟩] from by decide] at h3
  have hKa : Kept [] w3 (w3.alloc (.cells #[.int .i64 0, .int .i64 0, .int .i64 0, .string ⟨#[]⟩, .int .u64 0, .slice a3 n3 c3, .int .i64 0] 31)) := (Kept.refl _ _).alloc _
  have cD := liveT_done (h3.kept hKa) 1 1 ⟨2, 0, 5, [], 0, [], 0⟩ (.slice none 0 0) (KoO.nil 0 _).ko ⟨by simp, by simp, by simp⟩
  unfold vtV at cD
  clear cA h3
  unfold vtV vtC
  simp only [str_nil]
  simp only [str_nil] at cD
  go_wp2_with fail
  refine cD.mono ?_
  rintro _ w4 ⟨rfl, h4, _⟩
  rw [show doneI 1 1 [⟨1, 0, [97], vtC 0⟩] = some 0 from by decide]
  rw [show doneL 1 1 ⟨2, 0, 5, [], 0, [], 0⟩ [⟨1, 0, [97], vtC 0⟩] = [⟨1, 1, [97], ⟨2, 0, 5, [], 0, [], 0⟩⟩] from by decide] at h4
  have cB := liveT_ask h4 1 1
  rw [show askV 1 1 [⟨1, 1, [97], ⟨2, 0, 5, [], 0, [], 0⟩⟩] = (⟨2, 0, 5, [], 0, [], 0⟩, true) from by decide] at cB
  clear cD h4 hKa
  simp only [Option.isSome]
  go_wp2_with fail
  refine cB.mono ?_
  rintro _ w5 ⟨⟨a5, n5, c5, rfl, _⟩, h5, _⟩
  have hK5 := h5.keeps
  unfold vtV
  clear cB h5
  go_wp2_with fail
  go_ret
  exact ⟨rfl, hK5.alloc _⟩

end Go.Proofs.Ytajkmhepedlmmaa
