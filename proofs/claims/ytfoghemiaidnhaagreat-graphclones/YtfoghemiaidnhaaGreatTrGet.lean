/-
  Get: the leaf of a path.
-/
import Derived.Test.YtfoghemiaidnhaaGreatTrTree
import Derived.Handy
namespace Go.Proofs.YtfoghemiaidnhaaGreat
open Go.RowKit

/-- A leaf and true, or the empty leaf and false. -/
def tupL : Option Lf → Value
  | some x => .tuple #[lfV x, .bool true]
  | none => .tuple #[.agg #[.string ⟨#[]⟩, .int .u64 0, .int .i64 0, .bool false], .bool false]

/-- The height that stands in a node. -/
def hOf (w : World) : Value → Nat
  | .pointer (some a) => match w.cell? ⟨a.block, 7, none⟩ with
    | some (.int _ d) => d.toNat
    | _ => 0
  | _ => 0

theorem NAt.hOf {B : Nat} {w : World} {p : Option Addr} {t : Tr} (h : NAt B w p t) : hOf w (.pointer p) = t.height := by
  cases t with
  | nil => obtain rfl : p = none := h; rfl
  | node l x r =>
    obtain ⟨b, pl, pr, rfl, hb, h0, h1, hl, hr⟩ := h
    obtain ⟨_, _, _, _, _, _, _, c7⟩ := cells8 h0
    simp only [Go.Proofs.YtfoghemiaidnhaaGreat.hOf]
    rw [c7]
    simp

/-- Four cells of a block, written one behind the other. -/
theorem stores4 {w : World} {b : Nat} {a0 a1 a2 a3 : Value} {t : TypeId} (h : w.heap[b]? = some (.cells #[a0, a1, a2, a3] t (0, 0))) (v0 v1 v2 v3 : Value) :
    (w.setCell ⟨b, 0, none⟩ v0).cell? ⟨b, 0, none⟩ = some v0 ∧
    ((w.setCell ⟨b, 0, none⟩ v0).setCell ⟨b, 1, none⟩ v1).cell? ⟨b, 1, none⟩ = some v1 ∧
    (((w.setCell ⟨b, 0, none⟩ v0).setCell ⟨b, 1, none⟩ v1).setCell ⟨b, 2, none⟩ v2).cell? ⟨b, 2, none⟩ = some v2 ∧
    ((((w.setCell ⟨b, 0, none⟩ v0).setCell ⟨b, 1, none⟩ v1).setCell ⟨b, 2, none⟩ v2).setCell ⟨b, 3, none⟩ v3).cell? ⟨b, 3, none⟩ = some v3 := by
  obtain ⟨c0, c1, c2, c3⟩ := cells4 h
  refine ⟨World.cell?_setCell_same' _ _ _ (by rw [c0]; rfl), World.cell?_setCell_same' _ _ _ ?_, World.cell?_setCell_same' _ _ _ ?_, World.cell?_setCell_same' _ _ _ ?_⟩
  · simp [go_sem, c1]
  · simp [go_sem, c2]
  · simp [go_sem, c3]

theorem kept4 {a w : World} (h : Kept [] a w) {b : Nat} (hb : a.heap.size ≤ b) (v0 v1 v2 v3 : Value) : Kept [] a ((((w.setCell ⟨b, 0, none⟩ v0).setCell ⟨b, 1, none⟩ v1).setCell ⟨b, 2, none⟩ v2).setCell ⟨b, 3, none⟩ v3) :=
  (((h.setCell (.inr hb) _).setCell (.inr hb) _).setCell (.inr hb) _).setCell (.inr hb) _

set_option maxHeartbeats 4000000 in
set_option maxRecDepth 100000 in
theorem get_call (B : Nat) (w : World) (p : Option Addr) (t : Tr) (f : List UInt8) (h : NAt B w p t) (hf : f.length ≤ 140737488355328) :
    Calls Tryz.prog 67 #[.pointer p, .string (str f)] w fun e w' => e = .returned (tupL (t.get f)) ∧ Kept [] w w' := by
  obtain ⟨R, hR⟩ : ∃ R, R = t.get f := ⟨_, rfl⟩
  rw [← hR]
  have q4 := heap_alloc_new w (.cells #[.string ⟨#[]⟩, .int .u64 0, .int .i64 0, .bool false] 79)
  have hK0 := (Kept.refl [] w).alloc (.cells #[.string ⟨#[]⟩, .int .u64 0, .int .i64 0, .bool false] 79)
  go_enter Tryz.func67, Tryz.ntmps67
  go_wp2_with fail
  go_loopw [0] (fun nv wr => ∃ p' t', nv = .pointer p' ∧ NAt B wr p' t' ∧ t'.get f = R ∧ Kept [] (w.alloc (.cells #[.string ⟨#[]⟩, .int .u64 0, .int .i64 0, .bool false] 79)) wr) (fun nv wr => hOf wr nv)
  case atStart => exact ⟨p, t, rfl, h.kept hK0, hR.symm, Kept.refl _ _⟩
  case round =>
    obtain ⟨p', t', rfl, hN, hg, hK⟩ := hrel
    have q5 := hK.at q4 (by simp)
    have f5 := frozen_in q5
    have hKw : Kept [] w wr := hK0.trans hK (by simp)
    clear h hR
    cases t' with
    | nil =>
      obtain rfl : p' = none := hN
      obtain ⟨m0, m1, m2, m3⟩ := cells4 q5
      obtain ⟨s0, s1, s2, s3⟩ := stores4 q5 (.string ⟨#[]⟩) (.int .u64 0) (.int .i64 0) (.bool false)
      have g0 := f5 0
      have g1 := f5 1
      have g2 := f5 2
      have g3 := f5 3
      obtain rfl : none = R := hg
      clear hK q5 f5 q4 hK0
      go_wp2_with fail
      refine bodyPost_ret (v := tupL none) ?_ rfl ⟨rfl, kept4 hKw (Nat.le_refl _) _ _ _ _⟩
      rw [results_cell_tmp rfl]
      unfold tupL
      go_simp
    | node l x r =>
      have hh := hN.hOf
      obtain ⟨b, pl, pr, rfl, hb, h0, hx, hl, hr⟩ := hN
      obtain ⟨c0, c1, c2, c3, c4, c5, _, _⟩ := cells8 h0
      have cc := fun w' => compare_call f x.p w' hf hx
      simp only [Tr.get] at hg
      have hB : ∀ w', Kept [] wr w' → NAt B w' pl l ∧ NAt B w' pr r := fun w' hk => ⟨hl.kept hk, hr.kept hk⟩
      clear hl hr
      rcases cmpT_vals f x.p with e | e | e
      · rw [if_pos e] at hg
        rw [e] at cc
        go_wp2_with fail
        refine (cc _).mono ?_
        rintro e w1 ⟨rfl, hK1⟩
        have m4 := hK1.cell c4 (by simp)
        go_wp2_with fail
        go_roundw
        case rel => exact ⟨pl, l, rfl, (hB _ hK1).1, hg, hK.trans hK1 (by simp)⟩
        case measure =>
          show hOf w1 (.pointer pl) < hOf wr (.pointer (some ⟨b, 0, none⟩))
          rw [hh, (hB _ hK1).1.hOf]; simp only [Tr.height]; omega
      · rw [if_neg (by omega), if_neg (by omega)] at hg
        subst hg
        rw [e] at cc
        go_wp2_with fail
        refine (cc _).mono ?_
        rintro e w1 ⟨rfl, hK1⟩
        have m0 := hK1.cell c0 (by simp)
        have m1 := hK1.cell c1 (by simp)
        have m2 := hK1.cell c2 (by simp)
        have m3 := hK1.cell c3 (by simp)
        have q6 := hK1.at q5 (by simp)
        have f6 := frozen_in q6
        have g0 := f6 0
        have g1 := f6 1
        have g2 := f6 2
        have g3 := f6 3
        obtain ⟨k0, k1, k2, k3⟩ := cells4 q6
        obtain ⟨s0, s1, s2, s3⟩ := stores4 q6 (.string (str x.p)) (.int .u64 x.d) (.int .i64 x.r) (.bool x.g)
        have hKw2 : Kept [] w w1 := hKw.trans hK1 (by simp)
        clear hK q5 f5 q4 hK0 q6 f6 h0 c0 c1 c2 c3 c4 c5 hh hB hKw hK1
        go_wp2_with fail
        (try simp only [Exit.inBlock, Exit.then])
        refine bodyPost_ret (v := tupL (some x)) ?_ rfl ⟨rfl, kept4 hKw2 (Nat.le_refl _) _ _ _ _⟩
        rw [results_cell_tmp rfl]
        unfold tupL lfV
        go_simp
      · rw [if_neg (by omega), if_pos e] at hg
        rw [e] at cc
        go_wp2_with fail
        refine (cc _).mono ?_
        rintro e w1 ⟨rfl, hK1⟩
        have m4 := hK1.cell c5 (by simp)
        go_wp2_with fail
        go_roundw
        case rel => exact ⟨pr, r, rfl, (hB _ hK1).2, hg, hK.trans hK1 (by simp)⟩
        case measure =>
          show hOf w1 (.pointer pr) < hOf wr (.pointer (some ⟨b, 0, none⟩))
          rw [hh, (hB _ hK1).2.hOf]; simp only [Tr.height]; omega

end Go.Proofs.YtfoghemiaidnhaaGreat
