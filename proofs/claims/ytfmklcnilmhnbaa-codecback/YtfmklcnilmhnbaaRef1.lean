/-
  The document's own answer: Frame, Unframe, by their contracts.
-/
import Derived.Test.YtfmklcnilmhnbaaRef0
namespace Go.Proofs.Ytfmklcnilmhnbaa
open Go.RowKit

theorem own_sl {w : World} {v : Value} {l : List Int} (h : Own w v l) : ∃ ao n c, v = .slice ao n c ∧ Sl w ao n c l ∧ (∀ k ∈ blk ao, k < w.heap.size ∧ v.ownBlock = some k) := by
  obtain ⟨ao, n, c, h1, h2, h3⟩ := Sl.of_owns' h
  exact ⟨ao, n, c, h1, h2, fun k hk => ⟨(h3 k hk).2.1, (h3 k hk).2.2⟩⟩

/-- append of a row of bytes onto one that is owned, whatever the source is. -/
theorem wp_app {w : World} {ops : Array Oper} {rest : List Oper} {o : Oper} {a : Act} {Q : Exit → Act → World → Prop} (hgd : o.guard = none) (s x : Operand)
    (hop : o.op = .call { callee := .builtin .append, args := #[s, x], argTypes := #[25, 25] })
    (v : Value) (l : List Int) (hs : a.eval s = v) (hO : Own w v l) (ao : Option Addr) (m c : Nat) (L : List Int) (hx : a.eval x = .slice ao m c) (hS : Sl w ao m c L)
    (hlen : l.length + m ≤ 140737488355328)
    (h : ∀ v' w', Own w' v' (l ++ L) → Fresh w v.ownBlock v'.ownBlock → Kept v.ownBlock.toList w w' → wpList Try.prog ops Q rest (a.put o.dst v') w') : wpList Try.prog ops Q (o :: rest) a w := by
  obtain ⟨i0, hi, hz0, hz1, hz2⟩ := info_parts info_u8
  have hm := hS.1
  subst hm
  cases ao with
  | none =>
    have h1 := hS.2.2.2.1 rfl
    have h2 := hS.2.1
    have h3 : L = [] := by have h4 : L.length = 0 := by omega
                           simpa using h4
    subst h3
    subst h1
    refine wpList_append_own_none hgd s x 25 hop 0 5 i0 1 Try.underlying25 hi v _ _ hs hO hx ?_
    exact h v w (by simpa using hO) (Fresh.refl _ _) (Kept.refl _ _)
  | some ad =>
    refine wpList_append2 w hgd s x 25 hop 5 i0 (.int .u8 0) 1 1 Try.underlying25 hi hz0 hz1 hz2 rfl (by decide) v l.length (l.map (Value.int .u8)) hs hO ad L.length c (L.map (Value.int .u8)) hx (by simp) (sl_news hS) (oneCells L) (by unfold maxLen; omega) (by omega) ?_
    intro v1 w1 hown hgrow hfr
    exact h v1 w1 (own_app hown rfl rfl) hfr ((Kept.refl _ _).grown hgrow (by intro k hk; left; rw [hk]; simp))

set_option maxRecDepth 100000 in
set_option maxHeartbeats 2000000 in
theorem rframe_call (w : World) (ao : Option Addr) (n c : Nat) (l : List Int) (hs : Sl w ao n c l) (ho : Oct l) :
    Calls Try.prog 31 #[.slice ao n c] w fun r w' => ∃ a n' c', r = .returned (.tuple #[.slice a n' c', .int .i64 (frameE l).2]) ∧ Made w a n' c' (frameE l).1 w' := by
  obtain ⟨i0, hi, hz0, hz1, hz2⟩ := info_parts info_u8
  have hn := hs.1
  subst hn
  have hm := hs.2.2.1
  have hc := hs.2.1
  unfold maxLen at hm
  have HS : Hid (Sl w ao l.length c l) := hs
  clear hs
  by_cases hbig : 1048576 < l.length
  · have hb2 : (1048576 : Int) < (l.length : Int) := by omega
    have HE : Hid (frameE l = ([], 3)) := by show frameE l = ([], 3); unfold frameE; rw [if_neg (by omega)]
    go_enter Try.func31, Try.ntmps31
    go_wp2
    go_ret2
    rw [HE.out]
    exact ⟨none, 0, 0, rfl, Made.nil (Kept.refl _ _)⟩
  · have hb2 : ¬ (1048576 : Int) < (l.length : Int) := by omega
    have HE : Hid (frameE l = (frameOf l, 0)) := by show frameE l = (frameOf l, 0); unfold frameE; rw [if_pos (by omega)]
    go_enter Try.func31, Try.ntmps31
    go_wp2_with fail
    refine (four_call _ _ (by omega) (by omega)).mono ?_
    have HE2 : Hid (frameOf l = hiB 4 (l.length : Int) ++ hiB 4 (crcOf (hiB 4 (l.length : Int))) ++ (l ++ hiB 4 (crcOf l))) := rfl
    have hA4 := hiB_length 4 (l.length : Int)
    have hAo := hiB_oct 4 (l.length : Int)
    generalize hiB 4 (l.length : Int) = A at HE2 hA4 hAo ⊢
    have HA4 : Hid (A.length = 4) := hA4
    clear hA4
    rintro _ w1 ⟨v1, rfl, hO1, hf1, hk1⟩
    obtain ⟨a1, n1, c1, rfl, hs1, hb1⟩ := own_sl hO1
    have hn1 : n1 ≤ 4 := by have := hs1.1; have := HA4.out; omega
    go_wp2_with fail
    refine (copy_call _ _ _ _ _ hs1 (by omega)).mono ?_
    rintro _ w2 ⟨v2, rfl, hO2, hf2, hk2⟩
    have hs12 := Sl.kept hk2 hs1 (by simp)
    have hcr1 := crcOf_le A
    go_wp2_with fail
    refine (rcrc_call _ _ _ _ _ hs12 hAo).mono ?_
    rintro _ _ ⟨rfl, rfl⟩
    go_wp2_with fail
    refine (four_call _ _ (by omega) (by omega)).mono ?_
    have hB4 := hiB_length 4 (crcOf A : Int)
    generalize hiB 4 (crcOf A : Int) = B at HE2 hB4 ⊢
    have HB4 : Hid (B.length = 4) := hB4
    clear hB4
    rintro _ w3 ⟨v3, rfl, hO3, hf3, hk3⟩
    obtain ⟨a3, n3, c3, rfl, hs3, hb3⟩ := own_sl hO3
    have hn3 : n3 ≤ 4 := by have := hs3.1; have := HB4.out; omega
    have hO23 : Own w3 v2 A := hk3.ownsRow hO2 (by simp)
    have hw1 := hk1.size
    have hw2 := hk2.size
    have hw3 := hk3.size
    clear hO1 hs1 hb1 hO2 hs12 hO3 hb3
    go_wp2_with (at_builtin; refine wp_app rfl _ _ rfl v2 A rfl hO23 a3 n3 c3 B rfl hs3 (by have := HA4.out; omega) ?_)
    intro v4 w4 hO4 hf4 hk4
    have hF4 : ∀ k, v4.ownBlock = some k → w.heap.size ≤ k := by
      intro k hk
      rcases hf4 k hk with h5 | h5
      · have := hf2 k h5; omega
      · omega
    have hK4 : Kept [] w w4 := ((hk1.trans hk2 (by simp)).trans hk3 (by simp)).trans hk4 (by intro i hi; right; have := hf2 i (by simpa using hi); omega)
    have hs4 := Sl.kept hK4 HS.out (by simp)
    have hAB : (A ++ B).length ≤ 8 := by have := HA4.out; have := HB4.out; simp; omega
    generalize A ++ B = AB at HE2 hO4 hAB
    clear hO23 hs3 hf4 hk4 hf2 hf3
    go_wp2_with (at_builtin; refine wp_app rfl _ _ rfl v4 AB rfl hO4 ao l.length c l rfl hs4 (by omega) ?_)
    intro v5 w5 hO5 hf5 hk5
    have hF5 : ∀ k, v5.ownBlock = some k → w.heap.size ≤ k := by
      intro k hk
      rcases hf5 k hk with h5 | h5
      · exact hF4 k h5
      · have := hK4.size; omega
    have hK5 : Kept [] w w5 := hK4.trans hk5 (by intro i hi; right; exact hF4 i (by simpa using hi))
    have hs5 := Sl.kept hK5 HS.out (by simp)
    have hcr2 := crcOf_le l
    clear hO4 hf5 hk5 hs4
    go_wp2_with fail
    refine (rcrc_call _ _ _ _ _ hs5 ho).mono ?_
    rintro _ _ ⟨rfl, rfl⟩
    go_wp2_with fail
    refine (four_call _ _ (by omega) (by omega)).mono ?_
    have hD4 := hiB_length 4 (crcOf l : Int)
    generalize hiB 4 (crcOf l : Int) = D at HE2 hD4 ⊢
    have HD4 : Hid (D.length = 4) := hD4
    clear hD4
    rintro _ w6 ⟨v6, rfl, hO6, hf6, hk6⟩
    obtain ⟨a6, n6, c6, rfl, hs6, hb6⟩ := own_sl hO6
    have hn6 : n6 ≤ 4 := by have := hs6.1; have := HD4.out; omega
    have hO56 : Own w6 v5 (AB ++ l) := hk6.ownsRow hO5 (by simp)
    have hK6 : Kept [] w w6 := hK5.trans hk6 (by simp)
    have hlen6 : (AB ++ l).length ≤ 1048584 := by simp; omega
    generalize hG : AB ++ l = G at hO56 hlen6
    have HG : Hid (AB ++ l = G) := hG
    clear hO5 hO6 hb6 hs5 hG
    go_wp2_with (at_builtin; refine wp_app rfl _ _ rfl v5 G rfl hO56 a6 n6 c6 D rfl hs6 (by omega) ?_)
    intro v7 w7 hO7 hf7 hk7
    obtain ⟨a7, n7, c7, rfl, hs7, hb7⟩ := own_sl hO7
    have HM : Hid (Made w a7 n7 c7 (frameOf l) w7) := by
      refine ⟨?_, fun k hk => ⟨?_, (hb7 k hk).1⟩, hK6.trans hk7 (by intro i hi; right; exact hF5 i (by simpa using hi))⟩
      · rw [HE2.out, ← List.append_assoc, HG.out]; exact hs7
      · rcases hf7 k (hb7 k hk).2 with h5 | h5
        · exact hF5 k h5
        · have := hK6.size; omega
    clear hO7 hs7 hb7 hf7 hk7 hO56 hs6
    go_wp2
    go_ret2
    rw [HE.out]
    exact ⟨a7, n7, c7, rfl, HM.out⟩

end Go.Proofs.Ytfmklcnilmhnbaa
