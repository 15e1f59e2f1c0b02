/-
  Commits in memory of their own: slices.Clone, copies, Commits.
-/
import Derived.Test.YtfoghemiaidnhaaGreatM9
import Derived.Laws.OwnMore
namespace Go.Proofs.YtfoghemiaidnhaaGreat
open Go.RowKit

theorem cells_runK {w : World} {b o : Nat} {K : List (Com × Value)} (h : ∀ i (hi : i < K.length), CoAt w b (o + i * 4) K[i]) : ∀ (j : Nat) (u : Value), (K.flatMap coC)[j]? = some u → w.cell? ⟨b, o + j, none⟩ = some u := by
  intro j u hj
  have hlt : j < (K.flatMap coC).length := by
    by_cases hl : j < (K.flatMap coC).length
    · exact hl
    · rw [List.getElem?_eq_none (by omega)] at hj; cases hj
  rw [coC_length] at hlt
  have hi : j / 4 < K.length := by omega
  have e := coC_get K (j / 4) hi (j % 4) (by omega)
  have e2 : j / 4 * 4 + j % 4 = j := by omega
  rw [e2, hj] at e
  obtain ⟨c0, c1, c2, c3⟩ := h (j / 4) hi
  have h3 : j % 4 = 0 ∨ j % 4 = 1 ∨ j % 4 = 2 ∨ j % 4 = 3 := by omega
  generalize j / 4 = q at *
  rcases h3 with h3 | h3 | h3 | h3 <;> rw [h3] at e e2 <;> simp [coC] at e <;> subst e <;> subst e2
  · exact c0
  · rw [← Nat.add_assoc]; exact c1
  · rw [← Nat.add_assoc]; exact c2
  · rw [← Nat.add_assoc]; exact c3

theorem SlK.runs {w : World} {ad : Addr} {n c : Nat} {K : List (Com × Value)} (h : SlK w (Option.some ad) n c K) : ∀ (j : Nat) (u : Value), (K.flatMap coC)[j]? = Option.some u → w.cell? (ad.add j) = Option.some u := by
  cases K with
  | nil => intro j u hj; simp at hj
  | cons x K =>
    obtain ⟨b, o, e, _⟩ := h.2.2.2.1 0 (by simp)
    cases e
    intro j u hj
    rw [adr_addC]
    refine cells_runK (fun i hi => ?_) j u hj
    obtain ⟨b', o', e, h1⟩ := h.2.2.2.1 i hi
    cases e
    exact h1

theorem SlK.ones {w : World} {ao : Option Addr} {n c : Nat} {K : List (Com × Value)} (h : SlK w ao n c K) : ∀ x ∈ K, x.2.oneCell' = true := fun x hx => by
  obtain ⟨mo, m, mc, e, _⟩ := h.2.2.2.2 x hx
  rw [e]; rfl

/-- append of commits to a row that is owned. -/
theorem wp_appK {w : World} {ops : Array Oper} {rest : List Oper} {o : Oper} {a : Act} {Q : Exit → Act → World → Prop} (hgd : o.guard = none) (s x : Operand)
    (hop : o.op = .call { callee := .builtin .append, args := #[s, x], argTypes := #[26, 26] })
    (B : Nat) (v : Value) (M : List (Com × Value)) (hs : a.eval s = v) (hO : RowK B w v M) (ad : Addr) (m c : Nat) (N : List (Com × Value)) (hx : a.eval x = .slice (some ad) m c) (hm : m = N.length) (hc : ∀ (j : Nat) (u : Value), (N.flatMap coC)[j]? = some u → w.cell? (ad.add j) = some u) (h1 : ∀ x ∈ N, x.2.oneCell' = true)
    (hlen : M.length + N.length ≤ 1000000000) (hB : B ≤ w.heap.size)
    (h : ∀ v' w', RowK B w' v' (M ++ N) → w.grownBy w' v.ownBlock → wpList Tryz.prog ops Q rest (a.put o.dst v') w') : wpList Tryz.prog ops Q (o :: rest) a w := by
  subst hm
  obtain ⟨i0, hi, hz0, hz1, hz2⟩ := info_parts info_commit
  refine wpList_append_own w hgd s x 26 hop B 54 i0 (.agg #[.int .i64 0, .int .i64 0, .string ⟨#[]⟩, .slice none 0 0]) 4 56 Tryz.underlying26 hi hz0 hz1 hz2 rfl (by decide) v M.length (M.flatMap coC) hs hO ad N.length c (N.flatMap coC) hx (coC_length N) hc (one_coC h1) (by unfold maxLen; omega) (by omega) hB ?_
  intro v' w' h2 h3 _
  refine h v' w' ?_ h3
  unfold RowK
  rw [List.length_append, List.flatMap_append]
  exact h2

theorem own_voidK (w : World) (B : Nat) (hB : B ≤ w.heap.size) : RowK B (w.alloc (.cells #[] 54)) (.slice (some ⟨w.heap.size, 0, none⟩) 0 0) [] :=
  ⟨rfl, .inr ⟨w.heap.size, 0, #[], rfl, hB, heap_alloc_new w _, Nat.le_refl _, Nat.zero_le _, rfl, rfl⟩⟩

set_option maxHeartbeats 1000000 in
theorem cloneK_call (w : World) (ao : Option Addr) (n c : Nat) (K : List (Com × Value)) (hS : SlK w ao n c K) (hnil : ao = none → c = 0) (hn : n ≤ 100000000) :
    Calls Tryz.prog 53 #[.slice ao n c] w fun e w' => ∃ v, e = .returned v ∧ RowK w.heap.size w' v K ∧ Kept [] w w' := by
  have hl := hS.1
  have hc := hS.2.1
  have hm := hS.2.2.1
  unfold maxLen at hm
  have q0 : ∀ (w : World) (a : Option Addr) (n c : Nat), (binOp .eql 26 (.slice a n c) (.slice none 0 0)).run Tryz.prog w = .ok (.bool a.isNone) w := fun w a n c => Lib.run_eql_slice_nil w _ _ a n c 0 0 Tryz.underlying26
  cases ao with
  | none =>
    obtain rfl := hnil rfl
    obtain rfl : n = 0 := by omega
    obtain rfl : K = [] := by simpa using hl
    clear hS
    go_enter Tryz.func53, Tryz.ntmps53
    go_wp2_with fail
    go_ret
    exact ⟨_, rfl, RowK.nil _ _, Kept.refl _ _⟩
  | some ad =>
    have hA := (Kept.refl [] w).alloc (.cells #[] 54)
    have hO0 := own_voidK w w.heap.size (Nat.le_refl _)
    have HS : Hid (SlK (w.alloc (.cells #[] 54)) (some ad) n c K) := hS.kept hA
    have HL : Hid (K.length = n) := hl
    clear hS hl
    go_enter Tryz.func53, Tryz.ntmps53
    go_wp2_with (at_builtin; refine wp_appK rfl _ _ rfl w.heap.size _ [] rfl hO0 ad n c K rfl HL.out.symm HS.out.runs HS.out.ones (by rw [HL.out]; simp; omega) (by simp) ?_)
    intro v' w' hO hg
    have hK : Kept [] w w' := hA.grown hg fun k hk => .inr (World.ownsRow.lt hO0 k hk).1
    clear hg hO0
    go_wp2_with fail
    go_ret
    exact ⟨v', rfl, hO, hK⟩

theorem coC_set (K : List (Com × Value)) (i : Nat) (h : i < K.length) (u : Value) : (K.set i (K[i].1, u)).flatMap coC = (K.flatMap coC).set (i * 4 + 3) u := by
  induction K generalizing i with
  | nil => simp at h
  | cons x K ih =>
    cases i with
    | zero => simp [List.flatMap_cons, coC]
    | succ i =>
      simp only [List.set_cons_succ, List.flatMap_cons, List.getElem_cons_succ]
      rw [ih i (by simpa using h), List.set_append, if_neg (by simp [coC]; omega)]
      congr 2
      simp [coC]; omega

theorem RowK.set {B : Nat} {w : World} {g n cap : Nat} {K : List (Com × Value)} (h : RowK B w (.slice (some ⟨g, 0, none⟩) n cap) K) {i : Nat} (hi : i < K.length) (u : Value) :
    RowK B (w.setCell ⟨g, i * 4 + 3, none⟩ u) (.slice (some ⟨g, 0, none⟩) n cap) (K.set i (K[i].1, u)) := by
  obtain ⟨h1, h2⟩ := h
  rcases h2 with ⟨h2, _⟩ | ⟨g', cap', cur, hv, hg, hh, h3, h4, h5, h6⟩
  · cases h2
  · obtain ⟨rfl, rfl, rfl⟩ : g = g' ∧ n = K.length ∧ cap = cap' := by simpa using hv
    refine ⟨by rw [coC_set K i hi, List.length_set, List.length_set]; exact h1, .inr ⟨g, cap, cur.setIfInBounds (i * 4 + 3) u, by simp, hg, heap_setCell_same w g (i * 4 + 3) cur _ u hh, by simpa using h3, h4, by simpa using h5, ?_⟩⟩
    rw [coC_set K i hi, List.length_set, Array.toList_setIfInBounds, ← h6]
    rw [List.take_set]

/-- What copies come to. -/
def CopP (w : World) (L : List Com) (e : Ending) (w' : World) : Prop :=
  ∃ v K', e = .returned v ∧ K'.map Prod.fst = L ∧ RowK w.heap.size w' v K' ∧ OwnK w.heap.size w' K' ∧ Kept [] w w'

def CopI (w : World) (K : List (Com × Value)) (g cap : Nat) (iv : Value) (wr : World) : Prop :=
  ∃ (i : Nat) (K' : List (Com × Value)), iv = .int .i64 (i : Int) ∧ i ≤ K.length ∧ Hid (K'.map Prod.fst = K.map Prod.fst) ∧ Hid (RowK w.heap.size wr (.slice (some ⟨g, 0, none⟩) K.length cap) K') ∧
    Hid (∀ j (h : j < K'.length), j < i → OwnC w.heap.size wr K'[j].2 K'[j].1.c) ∧ Hid (∀ j (h : j < K'.length) (h2 : j < K.length), i ≤ j → K'[j] = K[j]) ∧ Hid (Kept [] w wr)

theorem cop_next {w wr w3 : World} {K K' : List (Com × Value)} {g cap i : Nat} {v2 : Value} (hi : i < K.length) (h1 : K'.map Prod.fst = K.map Prod.fst) (h2 : RowK w.heap.size wr (.slice (some ⟨g, 0, none⟩) K.length cap) K')
    (h3 : ∀ j (h : j < K'.length), j < i → OwnC w.heap.size wr K'[j].2 K'[j].1.c) (h4 : ∀ j (h : j < K'.length) (h2 : j < K.length), i ≤ j → K'[j] = K[j]) (h5 : Kept [] w wr) (hK : Kept [] wr w3) (hO : OwnC wr.heap.size w3 v2 K[i].1.c) :
    CopI w K g cap (.int .i64 ((i + 1 : Nat) : Int)) (w3.setCell ⟨g, i * 4 + 3, none⟩ v2) := by
  have hl : K'.length = K.length := by have := congrArg List.length h1; simpa using this
  have hi' : i < K'.length := by omega
  have e0 : K'[i] = K[i] := h4 i hi' hi (Nat.le_refl _)
  have hR3 : RowK w.heap.size w3 (.slice (some ⟨g, 0, none⟩) K.length cap) K' := hK.ownsRow h2 (by simp)
  have hK2 : Kept [g] w3 (w3.setCell ⟨g, i * 4 + 3, none⟩ v2) := (Kept.refl _ _).setCell (by simp) _
  have hT : Typed w3 [g] [54] := fun k hk cur t mk hh => by
    simp at hk; subst hk
    obtain ⟨c2, h⟩ := row_block hR3 (k := k) rfl
    rw [h] at hh; cases hh; simp
  refine ⟨i + 1, K'.set i (K'[i].1, v2), rfl, by omega, ?_, hR3.set hi' v2, ?_, ?_, ?_⟩
  · show (K'.set i (K'[i].1, v2)).map Prod.fst = K.map Prod.fst
    rw [List.map_set, ← h1]
    refine List.ext_getElem (by simp) fun j hj hj2 => ?_
    by_cases e : i = j
    · subst e; simp
    · simp [List.getElem_set_ne e]
  · intro j hj hlt
    simp only [List.length_set] at hj
    by_cases e : i = j
    · subst e
      simp only [List.getElem_set_self]
      rw [e0]
      exact row_typed hK2 hT (hO.mono h5.size) (by decide)
    · simp only [List.getElem_set_ne e]
      exact row_typed hK2 hT (hK.ownsRow (h3 j hj (by omega)) (by simp)) (by decide)
  · intro j hj hj2 hle
    rw [List.getElem_set_ne (by omega)]
    exact h4 j (by simpa using hj) hj2 (by omega)
  · refine (h5.trans hK (by simp)).trans hK2 (fun k hk => .inr ?_)
    simp at hk; subst hk
    exact (World.ownsRow.lt h2 k rfl).1

set_option maxHeartbeats 4000000 in
set_option maxRecDepth 100000 in
theorem copies_call (w : World) (ao : Option Addr) (n c : Nat) (K : List (Com × Value)) (hS : SlK w ao n c K) (hnil : ao = none → c = 0) (hn : n ≤ 1000000) (hcl : ∀ x ∈ K, x.1.c.length ≤ 1000000) :
    Calls Tryz.prog 48 #[.slice ao n c] w fun e w' => CopP w (K.map Prod.fst) e w' := by
  have cC := cloneK_call w ao n c K hS hnil (by omega)
  have hl := hS.1
  subst hl
  have HS : Hid (SlK w ao K.length c K) := hS
  have HC : Hid (∀ x ∈ K, x.1.c.length ≤ 1000000) := hcl
  clear hS hcl
  go_enter Tryz.func48, Tryz.ntmps48
  go_wp2_with fail
  refine cC.mono ?_
  rintro _ w1 ⟨v, rfl, hR, hK1⟩
  obtain ⟨ao', cap, rfl, hcap, hcm⟩ : ∃ ao cap, v = .slice ao K.length cap ∧ K.length ≤ cap ∧ cap ≤ maxLen := by
    obtain ⟨_, h2⟩ := hR
    rcases h2 with ⟨h3, h4⟩ | ⟨g, cap, cur, h3, _, _, h4, h5, _⟩
    · exact ⟨none, 0, by rw [h3, h4], by omega, Nat.zero_le _⟩
    · exact ⟨_, cap, h3, h4, h5⟩
  unfold maxLen at hcm
  have HR : Hid (RowK w.heap.size w1 (.slice ao' K.length cap) K) := hR
  have HK1 : Hid (Kept [] w w1) := hK1
  clear hR hK1 cC
  by_cases h0 : K.length = 0
  · have hK0 : K = [] := by simpa using h0
    subst hK0
    have hz : (([] : List (Com × Value)).length : Int) = 0 := rfl
    replace HR : Hid (RowK w.heap.size w1 (.slice ao' 0 cap) []) := HR
    clear h0
    go_wp2_with fail
    go_loopw [9] (fun iv wr => iv = .int .i64 0 ∧ w1 = wr) (fun _ _ => 1)
    case atStart => exact ⟨rfl, rfl⟩
    case round =>
      obtain ⟨rfl, rfl⟩ := hrel
      go_wp2_with fail
      go_ret
      exact ⟨_, [], rfl, rfl, HR.out, by intro x hx; simp at hx, HK1.out⟩
  · obtain ⟨g, cap', he, _, _⟩ := World.ownsRow.form HR.out (by omega)
    obtain ⟨rfl, rfl⟩ : ao' = some ⟨g, 0, none⟩ ∧ cap = cap' := by simpa using he
    clear he
    go_wp2_with fail
    go_loopw [9] (fun iv wr => CopI w K g cap iv wr) (fun iv _ => K.length - (intOf iv).toNat)
    case atStart => exact ⟨0, K, rfl, Nat.zero_le _, rfl, HR, fun j h h2 => by omega, fun j h h2 h3 => rfl, HK1⟩
    case round =>
      obtain ⟨i, K', rfl, hi, H1, H2, H3, H4, H5⟩ := hrel
      by_cases hlt : i < K.length
      · have hlt' : (i : Int) < K.length := by omega
        have hic : i ≤ cap := by omega
        have hl : K'.length = K.length := by have := congrArg List.length H1.out; simpa using this
        have HR2 : Hid (wr.ownsRow w.heap.size 54 4 (.slice (some ⟨g, 0, none⟩) K.length cap) K.length (K'.flatMap coC)) := by have := H2.out; unfold RowK at this; rw [hl] at this; exact this
        have d0 := World.ownsRow.cellAt HR2.out (i * 4 + 3) (by omega)
        rw [coC_get K' i (by omega) 3 (by omega), show (coC K'[i])[3]? = some K[i].2 from by rw [H4.out i (by omega) hlt (Nat.le_refl _)]; rfl] at d0
        have f0 := World.ownsRow.frozenAt HR2.out (i * 4 + 3)
        obtain ⟨mo, m, mc, hmv, hms, hmn⟩ := HS.out.2.2.2.2 K[i] (List.getElem_mem hlt)
        rw [hmv] at d0
        have hml := hms.1
        have hmc := HC.out K[i] (List.getElem_mem hlt)
        have cD := cloneC_call wr mo m mc K[i].1.c (hms.kept H5.out (by simp)) hmn (by omega)
        have HN : Hid (∀ w3 v2, Kept [] wr w3 → OwnC wr.heap.size w3 v2 K[i].1.c → CopI w K g cap (.int .i64 ((i + 1 : Nat) : Int)) (w3.setCell ⟨g, i * 4 + 3, none⟩ v2)) := fun w3 v2 h1 h2 => cop_next hlt H1.out H2.out H3.out H4.out H5.out h1 h2
        clear hmv hms hmn hml hmc
        go_wp2_with fail
        refine cD.mono ?_
        rintro _ w3 ⟨v2, rfl, hO2, hK2⟩
        obtain ⟨a2, n2, c2, rfl, _, _⟩ := hO2.chV
        have d3 := hK2.cell d0 (by simp)
        have f3 := World.ownsRow.frozenAt (hK2.ownsRow HR2.out (by simp)) (i * 4 + 3)
        have HF := Hid.out (HN.out w3 _ hK2 hO2 : Hid (CopI w K g cap (.int .i64 ((i + 1 : Nat) : Int)) (w3.setCell ⟨g, i * 4 + 3, none⟩ (.slice a2 n2 c2))))
        have HF2 : Hid (CopI w K g cap (.int .i64 ((i + 1 : Nat) : Int)) (w3.setCell ⟨g, i * 4 + 3, none⟩ (.slice a2 n2 c2))) := HF
        clear HF hO2 cD
        go_wp2_with fail
        go_roundw
        case rel => exact HF2.out
        case measure => simp [intOf]; omega
      · have hlt' : ¬ (i : Int) < K.length := by omega
        go_wp2_with fail
        go_ret
        have hl : K'.length = K.length := by have := congrArg List.length H1.out; simpa using this
        refine ⟨_, K', rfl, H1.out, by unfold RowK; rw [hl]; have := H2.out; unfold RowK at this; rw [hl] at this; exact this, fun x hx => ?_, H5.out⟩
        obtain ⟨j, hj, rfl⟩ := List.getElem_of_mem hx
        exact H3.out j hj (by omega)

end Go.Proofs.YtfoghemiaidnhaaGreat
