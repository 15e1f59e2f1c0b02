/-
  A writer's other calls.
-/
import Derived.Test.YtfmklcnilmhnbaaWr2
import Derived.Test.YtfmklcnilmhnbaaHi0
import Derived.Lib.AppendStr
namespace Go.Proofs.Ytfmklcnilmhnbaa
open Go.RowKit

def wrRun (e : Int) (l m : List Int) : List Int × Int := if e = 0 then (if m.length ≤ 1048576 then (l ++ (encNum m.length ++ m), 0) else ([], 3)) else ([], e)

def strOf (s : ByteArray) : List Int := s.data.toList.map fun b => (b.toNat : Int)

theorem strOf_length (s : ByteArray) : (strOf s).length = s.size := by simp [strOf]
theorem strOf_oct (s : ByteArray) : Oct (strOf s) := by
  intro x hx
  simp only [strOf, List.mem_map] at hx
  obtain ⟨b, _, rfl⟩ := hx
  have := b.toNat_lt
  omega

theorem strCells_of (s : ByteArray) : Lib.strCells s = (strOf s).map (Value.int .u8) := by
  simp [Lib.strCells, strOf]

theorem appendS_fresh {P : Program} (w : World) (t u ty e : TypeId) (i : TypeInfo) (ht : P.underlying t = some (.slice e)) (hu : P.underlying u = some .string) (hi : P.info? e = some i) (hz : i.zero = some (.int .u8 0))
    (hsize : i.size = 1) (hby : i.bytes = 1) (v : Value) (n : Nat) (xs : List Value) (hown : w.ownsRow 0 e 1 v n xs) (s : ByteArray)
    (h63 : n + s.size ≤ maxLen) (hbytes : n + s.size ≤ 140737488355328) (v' : Value) (w' : World) (hr : (Builtin.append_ #[t, u] ty #[v, .string s]).run P w = .ok v' w') :
    ∀ k, v'.ownBlock = some k → v.ownBlock = some k ∨ w.heap.size ≤ k := by
  intro k hk
  rcases hown.2 with ⟨rfl, rfl⟩ | ⟨g, cap, cur, rfl, hbg, hg, hnc, hcm, hcs, htake⟩
  · have hx : xs = [] := List.eq_nil_of_length_eq_zero (by simpa using hown.1)
    subst hx
    obtain ⟨v2, w2, hr2, ho2, _⟩ := Lib.run_append_own_string (P := P) w w.heap.size t u ty e i ht hu hi hz hsize hby _ _ _ (World.ownsRow_nil w w.heap.size e 1) s h63 hbytes (Nat.le_refl _)
    rw [hr] at hr2
    obtain ⟨rfl, rfl⟩ : v' = v2 ∧ w' = w2 := by simpa using hr2
    exact .inr (ho2.lt k hk).1
  · by_cases hroom : n + s.size ≤ cap
    · have hcs' : cur.size = cap := by simpa using hcs
      have hr2 := Lib.run_append_room_string (P := P) w t u ty e i ht hu hi hsize g n cap cur hg s hroom (by omega)
      rw [hr2] at hr
      have : v' = .slice (some ⟨g, 0, none⟩) (n + s.size) cap := by simp at hr; exact hr.1.symm
      subst this
      exact .inl hk
    · have hr2 := Lib.run_append_grow_string (P := P) w t u ty e i (.int .u8 0) ht hu hi hz ⟨g, 0, none⟩ n cap xs (by rw [hsize]; exact hown.1) (hown.cells (g := g) rfl) s (by omega) (by unfold maxLen at h63; omega) (by rw [hby]; exact growslice_fits (by omega) (by omega))
      rw [hr2] at hr
      have : v'.ownBlock = some w.heap.size := by simp at hr; rw [← hr.1]; rfl
      rw [this] at hk; cases hk
      exact .inr (Nat.le_refl _)

/-- append of a text's bytes. -/
theorem wp_appS {w : World} {ops : Array Oper} {rest : List Oper} {o : Oper} {a : Act} {Q : Exit → Act → World → Prop} (hgd : o.guard = none) (sl x : Operand)
    (ho : o.op = .call { callee := .builtin .append, args := #[sl, x], argTypes := #[25, 9] })
    (v : Value) (l : List Int) (hs : a.eval sl = v) (hO : Own w v l) (s : ByteArray) (hx : a.eval x = .string s) (hlen : l.length + s.size ≤ 140737488355328)
    (h : ∀ v' w', Own w' v' (l ++ strOf s) → Fresh w v.ownBlock v'.ownBlock → Kept v.ownBlock.toList w w' → wpList Try.prog ops Q rest (a.put o.dst v') w') : wpList Try.prog ops Q (o :: rest) a w := by
  obtain ⟨i0, hi, hz0, hz1, hz2⟩ := info_parts info_u8
  refine wpList_plain hgd fun K hK => ?_
  obtain ⟨v', w', hr, h2, h3, h4⟩ := Lib.run_append_own_string (P := Try.prog) w 0 25 9 o.type 5 i0 Try.underlying25 Try.underlying9 hi hz0 hz1 hz2 v l.length _ hO s (by unfold maxLen; omega) hlen (Nat.zero_le _)
  have h5 := appendS_fresh (P := Try.prog) w 25 9 o.type 5 i0 Try.underlying25 Try.underlying9 hi hz0 hz1 hz2 v l.length _ hO s (by unfold maxLen; omega) hlen v' w' hr
  unfold Oper.wp execOp
  simp only [ho, resolve, invoke, builtin, Sem.run_bind, Sem.run_pure, Result.andThen_ok, List.map_toArray, List.map_cons, List.map_nil, hs, hx, hr]
  refine hK _ _ (h v' w' (own_app h2 (strOf_length s).symm (strCells_of s)) h5 ((Kept.refl _ _).grown h3 (by intro k hk; left; rw [hk]; simp)))

theorem wrote_ok {w w3 : World} {p : Nat} {g : Option Nat} {v v3 : Value} {l : List Int} (hA : WrAt w3 p v 0) (hO : Own w3 v3 l) (ho : Oct l) (hne : v3.ownBlock ≠ some p) (hf : Fresh w g v3.ownBlock) (hK : Kept (p :: g.toList) w w3) :
    Wrote w p g (l, 0) (.returned (.tuple #[])) (w3.setCell ⟨p, 1, none⟩ v3) := by
  refine ⟨rfl, _, ⟨v3, hA.set1 _, ?_, rfl, hne, ho, by simp⟩, hf, hK.setCell (by simp) _⟩
  exact (show Kept [p] w3 _ from (Kept.refl _ _).setCell (by simp) _).ownsRow hO (by intro k hk h7; simp at h7; subst h7; exact hne hk)

set_option maxHeartbeats 1000000 in
theorem writeBytes_any (w : World) (p : Nat) (g : Option Nat) (l : List Int) (e : Int) (ao : Option Addr) (n c : Nat) (m : List Int) (hw : Wr w p g l e) (hs : Sl w ao n c m) (hom : Oct m) (hl : l.length ≤ 1000000000) (hd : 0 < n → ∀ k ∈ blk ao, k ∉ p :: g.toList) :
    Calls Try.prog 79 #[.pointer (some ⟨p, 0, none⟩), .slice ao n c] w (Wrote w p g (wrRun e l m)) := by
  have hn := hs.1
  subst hn
  have hm := hs.2.2.1
  have hc := hs.2.1
  unfold maxLen at hm
  obtain ⟨v, h1, h2, h3, h4, h5, h6⟩ := hw
  have H1 : Hid (WrAt w p v e) := h1
  have H2 : Hid (Own w v l) := h2
  have HS : Hid (Sl w ao m.length c m) := hs
  obtain ⟨c0, c1, c2, c3⟩ := h1.cells
  clear h1 h2 hs
  by_cases he : e = 0
  · subst he
    by_cases hbig : 1048576 < m.length
    · have hb2 : (1048576 : Int) < (m.length : Int) := by omega
      have HQ : Hid (wrRun 0 l m = ([], 3)) := by show wrRun 0 l m = ([], 3); unfold wrRun; rw [if_pos rfl, if_neg (by omega)]
      go_enter Try.func79, Try.ntmps79
      go_wp2_with fail
      refine (writes_any _ _ _ _ H1.out).mono ?_
      rintro _ _ ⟨rfl, rfl⟩
      go_wp2_with fail
      refine (wfail_any _ _ _ _ _ H1.out).mono ?_
      rintro _ w1 ⟨rfl, hA1, hk⟩
      go_wp2
      go_returns
      rw [HQ.out]
      exact Wrote.failed hA1 hk
    · have hb2 : ¬ (1048576 : Int) < (m.length : Int) := by omega
      have HQ : Hid (wrRun 0 l m = (l ++ (encNum m.length ++ m), 0)) := by show wrRun 0 l m = _; unfold wrRun; rw [if_pos rfl, if_pos (by omega)]
      go_enter Try.func79, Try.ntmps79
      go_wp2_with fail
      refine (writes_any _ _ _ _ H1.out).mono ?_
      rintro _ _ ⟨rfl, rfl⟩
      go_wp2_with fail
      refine (appendNumber_any _ _ _ _ H2.out (by omega) (by omega) hl).mono ?_
      rintro _ w1 ⟨v1, rfl, hO1, hfr1, hk1⟩
      have hpS : p ∉ v.ownBlock.toList := by rw [h3]; simp; exact h4
      have hA1 : WrAt w1 p v 0 := hk1.at H1.out hpS
      obtain ⟨d0, d1, d2, d3⟩ := hA1.cells
      have hpw := lt_of_at H1.out
      have hne : v1.ownBlock ≠ some p := by
        intro h7
        rcases hfr1 p h7 with h8 | h8
        · exact h4 (by rw [← h3]; exact h8)
        · omega
      have hlenA : (l ++ encNum (m.length : Int)).length ≤ 1000000006 := by have := enc_length 5 (m.length : Int); simp [encNum]; omega
      generalize hLA : l ++ encNum (m.length : Int) = LA at hO1 hlenA
      have HLA : Hid (l ++ encNum (m.length : Int) = LA) := hLA
      clear hLA
      obtain ⟨a1, n1, cc1, rfl, hs1, hb1⟩ := own_sl hO1
      clear c0 c1 c2 c3
      have hKp : Kept [p] w1 (w1.setCell ⟨p, 1, none⟩ (.slice a1 n1 cc1)) := (Kept.refl _ _).setCell (by simp) _
      have hO2 : Own (w1.setCell ⟨p, 1, none⟩ (.slice a1 n1 cc1)) (.slice a1 n1 cc1) LA := hKp.ownsRow hO1 (by intro k hk h7; simp at h7; subst h7; exact hne hk)
      have hA2 : WrAt (w1.setCell ⟨p, 1, none⟩ (.slice a1 n1 cc1)) p (.slice a1 n1 cc1) 0 := hA1.set1 _
      have hK2 : Kept (p :: g.toList) w (w1.setCell ⟨p, 1, none⟩ (.slice a1 n1 cc1)) := (hk1.mono (T := p :: g.toList) (by rw [h3]; intro i hi; exact .inl (by simp at hi ⊢; exact .inr hi))).setCell (by simp) _
      have hs2 : Sl (w1.setCell ⟨p, 1, none⟩ (.slice a1 n1 cc1)) ao m.length c m := Sl.kept' hK2 HS.out hd
      have hsz : w.heap.size ≤ (w1.setCell ⟨p, 1, none⟩ (.slice a1 n1 cc1)).heap.size := hK2.size
      go_wp2_with (at_builtin; refine wp_app rfl _ _ rfl _ LA rfl hO2 ao m.length c m rfl hs2 (by omega) ?_)
      intro v3 w3 hO3 hf3 hk3
      have hA3 : WrAt w3 p (.slice a1 n1 cc1) 0 := hk3.at hA2 (by simpa using hne)
      obtain ⟨e0, e1, e2, e3⟩ := hA3.cells
      have hF3 : Fresh w g v3.ownBlock := by
        intro k hk
        rcases hf3 k hk with h8 | h8
        · rcases hfr1 k h8 with h9 | h9
          · exact .inl (by rw [← h3]; exact h9)
          · exact .inr h9
        · exact .inr (by omega)
      have hne3 : v3.ownBlock ≠ some p := by
        intro h7
        rcases hF3 p h7 with h8 | h8
        · exact h4 h8
        · omega
      have hK3 : Kept (p :: g.toList) w w3 := hK2.trans hk3 (by
        intro i hi
        rcases hfr1 i (by simpa using hi) with h9 | h9
        · left; rw [h3] at h9; rw [h9]; simp
        · exact .inr h9)
      have HOK : Hid (Wrote w p g (wrRun 0 l m) (.returned (.tuple #[])) (w3.setCell ⟨p, 1, none⟩ v3)) := by
        show Wrote w p g (wrRun 0 l m) (.returned (.tuple #[])) (w3.setCell ⟨p, 1, none⟩ v3)
        rw [HQ.out]
        refine wrote_ok hA3 ?_ ?_ hne3 hF3 hK3
        · rw [← List.append_assoc, HLA.out]; exact hO3
        · exact h5.append ((encNum_oct _ (by omega) (by omega)).append hom)
      obtain ⟨a3, n3, cc3, rfl, _, _⟩ := own_sl hO3
      clear hO3 hO2 hA2 hA3 hs2 d0 d1 d2 d3 hf3 hk3
      go_wp2
      go_end0
      exact HOK.out
  · have hq : wrRun e l m = ([], e) := by unfold wrRun; rw [if_neg he]
    have HQ : Hid (wrRun e l m = ([], e)) := hq
    obtain ⟨rfl, rfl⟩ := h6 he
    have hb : (e == 0) = false := by simp [he]
    clear hq he h6
    go_enter Try.func79, Try.ntmps79
    go_wp2_with fail
    refine (writes_any _ _ _ _ H1.out).mono ?_
    rintro _ _ ⟨rfl, rfl⟩
    go_wp2
    go_returns
    rw [HQ.out]
    exact Wrote.failed H1.out (Kept.refl _ _)

end Go.Proofs.Ytfmklcnilmhnbaa
