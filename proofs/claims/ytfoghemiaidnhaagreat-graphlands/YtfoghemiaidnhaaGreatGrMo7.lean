/-
  The document's own graph: CopyCommit, Log.
-/
import Derived.Test.YtfoghemiaidnhaaGreatGrMo6
import Derived.Test.YtfoghemiaidnhaaGreatGrLoop
namespace Go.Proofs.YtfoghemiaidnhaaGreat
open Go.RowKit

theorem wp_appKB {w : World} {ops : Array Oper} {rest : List Oper} {o : Oper} {a : Act} {Q : Exit → Act → World → Prop} (hgd : o.guard = none) (s x : Operand)
    (hop : o.op = .call { callee := .builtin .append, args := #[s, x], argTypes := #[26, 26] })
    (B : Nat) (v : Value) (K : List (Com × Value)) (hs : a.eval s = v) (hO : RowK B w v K) (g : Nat) (y : Com × Value) (hx : a.eval x = .slice (some ⟨g, 0, none⟩) 1 1) (hc : w.heap[g]? = some (.cells #[.int .i64 y.1.r, .int .i64 y.1.b, .string (str y.1.n), y.2] 54 (0, 0)))
    (h1 : y.2.oneCell' = true) (hlen : K.length ≤ 1000000000) (hB : B ≤ w.heap.size)
    (h : ∀ v' w', RowK B w' v' (K ++ [y]) → w.grownBy w' v.ownBlock → wpList Tryz.prog ops Q rest (a.put o.dst v') w') : wpList Tryz.prog ops Q (o :: rest) a w := by
  obtain ⟨i0, hi, hz0, hz1, hz2⟩ := info_parts info_commit
  refine wpList_append_own w hgd s x 26 hop B 54 i0 (.agg #[.int .i64 0, .int .i64 0, .string ⟨#[]⟩, .slice none 0 0]) 4 56 Tryz.underlying26 hi hz0 hz1 hz2 rfl (by decide) v K.length (K.flatMap coC) hs hO ⟨g, 0, none⟩ 1 1 (coC y) hx rfl (World.news_of_block hc) ?_ (by unfold maxLen; omega) (by omega) hB ?_
  · intro u hu; simp [coC] at hu; rcases hu with rfl | rfl | rfl | rfl <;> first | rfl | exact h1
  · intro v' w' h2 h3 _
    refine h v' w' ?_ h3
    unfold RowK
    rw [List.length_append, List.flatMap_append]
    simpa using h2

theorem size_co : (Tryz.prog.info? 54).map (·.size) = some 4 := by kernel_rfl

theorem co_result {w : World} {g : Nat} {cs : Array Value} {fn : Func} {p : Tmp} (hr : fn.results = #[.cell p 54]) (tmps : Array Value) (hp : tmps.getD p undef = .pointer (some ⟨g, 0, none⟩)) (hg : w.heap[g]? = some (.cells cs 54 (0, 0))) (hs : cs.size = 4) :
    (results fn tmps).run Tryz.prog w = .ok (.agg cs) w :=
  results_cell_row hr tmps w g _ cs _ _ hp hg Tryz.underlying54 rfl (by rw [hs]; exact size_co)

/-- What CopyCommit leaves. -/
theorem copyc_end {w w3 : World} {v' : Value} {l : List Ch} {u0 u1 u2 u3 : Value} {vs ws : Array Value} (hK : Kept [] w w3) (hO : OwnC (w.heap.size + 2) w3 v' l) (hA : w3.heap[w.heap.size]? = some (.cells vs 54 (0, 0))) (hB : w3.heap[w.heap.size + 1]? = some (.cells ws 54 (0, 0))) :
    Hid (OwnC w.heap.size (((((w3.setCell ⟨w.heap.size, 3, none⟩ v').setCell ⟨w.heap.size + 1, 0, none⟩ u0).setCell ⟨w.heap.size + 1, 1, none⟩ u1).setCell ⟨w.heap.size + 1, 2, none⟩ u2).setCell ⟨w.heap.size + 1, 3, none⟩ u3) v' l ∧
      Kept [] w (((((w3.setCell ⟨w.heap.size, 3, none⟩ v').setCell ⟨w.heap.size + 1, 0, none⟩ u0).setCell ⟨w.heap.size + 1, 1, none⟩ u1).setCell ⟨w.heap.size + 1, 2, none⟩ u2).setCell ⟨w.heap.size + 1, 3, none⟩ u3)) := by
  have hk : Kept [w.heap.size, w.heap.size + 1] w3 (((((w3.setCell ⟨w.heap.size, 3, none⟩ v').setCell ⟨w.heap.size + 1, 0, none⟩ u0).setCell ⟨w.heap.size + 1, 1, none⟩ u1).setCell ⟨w.heap.size + 1, 2, none⟩ u2).setCell ⟨w.heap.size + 1, 3, none⟩ u3) :=
    ((((((Kept.refl _ _).setCell (.inl (by simp)) _).setCell (.inl (by simp)) _).setCell (.inl (by simp)) _).setCell (.inl (by simp)) _).setCell (.inl (by simp)) _)
  have hT : Typed w3 [w.heap.size, w.heap.size + 1] [54] := fun k hk' cur t' mk hh => by
    simp at hk'
    rcases hk' with rfl | rfl
    · rw [hA] at hh; cases hh; simp
    · rw [hB] at hh; cases hh; simp
  exact ⟨OwnC.mono (C := w.heap.size + 2) (row_typed (B := w.heap.size + 2) hk hT hO (by decide)) (by omega), hK.trans hk (fun k hk' => .inr (by simp at hk'; omega))⟩

set_option maxHeartbeats 4000000 in
theorem copyc_call (w : World) (x : Com) (mo : Option Addr) (mm mc : Nat) (hS : SlC w mo mm mc x.c) (hne : x.c ≠ []) (hm : mm ≤ 1000000) :
    Calls Tryz.prog 49 #[.agg #[.int .i64 x.r, .int .i64 x.b, .string (str x.n), .slice mo mm mc]] w fun e w' => ∃ v', e = .returned (.agg #[.int .i64 x.r, .int .i64 x.b, .string (str x.n), v']) ∧ OwnC w.heap.size w' v' x.c ∧ Kept [] w w' := by
  obtain ⟨W1, hW1⟩ : ∃ W1, W1 = (w.alloc (.cells #[.int .i64 x.r, .int .i64 x.b, .string (str x.n), .slice mo mm mc] 54)).alloc (.cells #[.int .i64 0, .int .i64 0, .string ⟨#[]⟩, .slice none 0 0] 54) := ⟨_, rfl⟩
  have hsz : W1.heap.size = w.heap.size + 2 := by rw [hW1, World.size_alloc, World.size_alloc]
  have hK0 : Kept [] w W1 := by rw [hW1]; exact ((Kept.refl _ _).alloc _).alloc _
  have hQ : W1.heap[w.heap.size]? = some (.cells #[.int .i64 x.r, .int .i64 x.b, .string (str x.n), .slice mo mm mc] 54 (0, 0)) := by
    rw [hW1]; exact (Below.heap_alloc _ _ _ (by simp)).trans (heap_alloc_new w _)
  have hB : W1.heap[w.heap.size + 1]? = some (.cells #[.int .i64 0, .int .i64 0, .string ⟨#[]⟩, .slice none 0 0] 54 (0, 0)) := by
    rw [hW1]
    have := heap_alloc_new (w.alloc (.cells #[.int .i64 x.r, .int .i64 x.b, .string (str x.n), .slice mo mm mc] 54)) (.cells #[.int .i64 0, .int .i64 0, .string ⟨#[]⟩, .slice none 0 0] 54)
    rw [World.size_alloc] at this
    exact this
  have hA := (Kept.refl [] W1).alloc (.cells #[] 31)
  have hO0 := own_voidC W1 (w.heap.size + 2) (by omega)
  have hn := hS.1
  obtain ⟨ad, rfl⟩ : ∃ ad, mo = some ad := by
    obtain ⟨b', o', e, _⟩ := hS.2.2.2 0 (List.length_pos_iff.2 hne)
    exact ⟨_, e⟩
  have HS : Hid (SlC (W1.alloc (.cells #[] 31)) (some ad) mm mc x.c) := (hS.kept hK0 (by simp)).kept hA (by simp)
  have HN : Hid (mm = x.c.length) := hn.symm
  have HL : Hid (([] : List Ch).length + x.c.length ≤ 1000000000000) := by show _ ≤ _; simp; omega
  obtain ⟨q0, q1, q2, q3⟩ := cells4 (hA.at hQ (by simp))
  have HQ := hid_of hQ
  have HB := hid_of hB
  have HSz := hid_of hsz
  have HK0 := hid_of hK0
  have hBs : w.heap.size + 2 ≤ (W1.alloc (.cells #[] 31)).heap.size := by rw [World.size_alloc]; omega
  rw [hsz] at hO0
  have HO0 := hid_of hO0
  have hA2 := hid_of hA
  clear hS hn hQ hB hK0 hA hne hO0 hsz
  subst hW1
  go_enter Tryz.func49, Tryz.ntmps49
  go_wp2_with (at_builtin; refine wp_appC rfl _ _ rfl (w.heap.size + 2) _ [] rfl HO0.out ad mm mc x.c rfl HN.out HS.out.runs' HL.out hBs ?a1)
  case a1 =>
    intro v' w3 hO3 hg3
    replace hO3 : OwnC (w.heap.size + 2) w3 v' x.c := hO3
    have hK3 := grown_keptC (hA2.out) HO0.out (by rw [HSz.out]; omega) hg3
    have hQ3 := hK3.at HQ.out (by simp)
    have hB3 := hK3.at HB.out (by simp)
    obtain ⟨a', n', c', rfl, _, _⟩ := hO3.chV
    have HE := copyc_end (u0 := .int .i64 x.r) (u1 := .int .i64 x.b) (u2 := .string (str x.n)) (u3 := .slice a' n' c') (HK0.out.trans hK3 (by simp)) hO3 hQ3 hB3
    obtain ⟨p0, p1, p2, p3⟩ := cells4 hQ3
    obtain ⟨s0, s1, s2, s3⟩ := cells4 hB3
    have fq := frozen_in hQ3 3
    have f0 := frozen_in hB3 0
    have f1 := frozen_in hB3 1
    have f2 := frozen_in hB3 2
    have f3 := frozen_in hB3 3
    have HB3 : Hid ((w3.setCell ⟨w.heap.size, 3, none⟩ (.slice a' n' c')).heap[w.heap.size + 1]? = some (.cells #[.int .i64 0, .int .i64 0, .string ⟨#[]⟩, .slice none 0 0] 54 (0, 0))) :=
      (show Kept [w.heap.size] w3 _ from (Kept.refl _ _).setCell (by simp) _).at hB3 (by simp)
    clear hO3 hg3 hK3 hQ3 hB3 q0 q1 q2 q3
    go_wp2_with fail
    refine bodyPost_ret (co_result (by rfl) _ (by rfl) (set4 HB3) rfl) rfl ?_
    exact ⟨_, rfl, HE.out⟩

end Go.Proofs.YtfoghemiaidnhaaGreat
