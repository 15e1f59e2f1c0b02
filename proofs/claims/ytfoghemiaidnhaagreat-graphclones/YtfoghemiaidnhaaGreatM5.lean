/-
  Texts of this claim that are laid as one: PaOwn, PaRef0, PaRef1.
-/
import Derived.Test.YtfoghemiaidnhaaGreatM3
import Derived.Laws.AppendOwn
import Derived.OwnWalk
import Derived.WalkSmall
import Derived.Laws.Strings3
import Derived.Laws.Cover1
/-
  Rows of texts that are owned: one more at the end.
-/
namespace Go.Proofs.YtfoghemiaidnhaaGreat
open Go.RowKit

theorem info_str : (Tryz.prog.info? 9).map (fun i => (i.zero, i.size, i.bytes)) = some (some (.string ⟨#[]⟩), 1, 16) := by kernel_rfl

/-- The row is the texts l, in a block that is new since B. -/
def OwnS (B : Nat) (w : World) (v : Value) (l : List (List UInt8)) : Prop := w.ownsRow B 9 1 v l.length (l.map fun x => .string (str x))

theorem OwnS.nil (B : Nat) (w : World) : OwnS B w (.slice none 0 0) [] := World.ownsRow_nil w B 9 1

/-- append of one text. -/
theorem wp_push {w : World} {ops : Array Oper} {rest : List Oper} {o : Oper} {a : Act} {Q : Exit → Act → World → Prop} (hgd : o.guard = none) (s x : Operand)
    (hop : o.op = .call { callee := .builtin .append, args := #[s, x], argTypes := #[82, 82] })
    (B : Nat) (v : Value) (l : List (List UInt8)) (hs : a.eval s = v) (hO : OwnS B w v l) (g : Nat) (y : List UInt8) (hx : a.eval x = .slice (some ⟨g, 0, none⟩) 1 1) (hc : w.cell? ⟨g, 0, none⟩ = some (.string (str y)))
    (hlen : l.length ≤ 1000000000000) (hB : B ≤ w.heap.size)
    (h : ∀ v' w', OwnS B w' v' (l ++ [y]) → w.grownBy w' v.ownBlock → wpList Tryz.prog ops Q rest (a.put o.dst v') w') : wpList Tryz.prog ops Q (o :: rest) a w := by
  obtain ⟨i0, hi, hz0, hz1, hz2⟩ := info_parts info_str
  refine wpList_append_own w hgd s x 82 hop B 9 i0 (.string ⟨#[]⟩) 1 16 Tryz.underlying82 hi hz0 hz1 hz2 rfl (by decide) v l.length (l.map fun x => .string (str x)) hs hO ⟨g, 0, none⟩ 1 1 [.string (str y)] hx rfl ?_ ?_ (by unfold maxLen; omega) (by omega) hB ?_
  · intro j u hj
    match j, hj with
    | 0, hj => simp at hj; subst hj; simpa [Addr.add] using hc
  · intro u hu; simp at hu; subst hu; rfl
  · intro v' w' h1 h2 _
    refine h v' w' ?_ h2
    unfold OwnS
    rw [List.length_append, List.map_append]
    exact h1

theorem OwnS.kept {S : List Nat} {B : Nat} {w w' : World} {v : Value} {l : List (List UInt8)} (h : OwnS B w v l) (k : Kept S w w') (hS : ∀ i ∈ S, i < B ∨ w.heap.size ≤ i) : OwnS B w' v l := by
  refine k.ownsRow h ?_
  intro b hb hm
  have := World.ownsRow.lt h b hb
  rcases hS b hm with h1 | h1 <;> omega

/-- What is owned, as a slice. -/
theorem OwnS.slice {B : Nat} {w : World} {v : Value} {l : List (List UInt8)} (h : OwnS B w v l) :
    ∃ ao c, v = .slice ao l.length c ∧ l.length ≤ c ∧ (∀ (j : Nat) x, l[j]? = some x → ∃ g, ao = some ⟨g, 0, none⟩ ∧ w.cell? ⟨g, j, none⟩ = some (.string (str x))) := by
  have h' := h
  obtain ⟨h1, h2⟩ := h
  rcases h2 with ⟨hv, hn⟩ | ⟨g, cap, cur, hv, hg, hh, h3, h4, h5, h6⟩
  · refine ⟨none, 0, by rw [hv, hn], by omega, fun j x hx => ?_⟩
    have : l = [] := by simpa using hn
    subst this; cases hx
  · refine ⟨some ⟨g, 0, none⟩, cap, hv, h3, fun j x hx => ⟨g, rfl, ?_⟩⟩
    have hj : j < l.length := by
      by_cases e : j < l.length
      · exact e
      · rw [List.getElem?_eq_none (by omega)] at hx; cases hx
    unfold OwnS at h'
    rw [hv] at h'
    rw [World.ownsRow.cellAt h' j (by omega), List.getElem?_map, hx]; rfl

theorem grown_kept {B : Nat} {a w w' : World} {v : Value} {l : List (List UInt8)} (h : Kept [] a w) (hO : OwnS B w v l) (hB : a.heap.size ≤ B) (hg : w.grownBy w' v.ownBlock) : Kept [] a w' :=
  h.grown hg fun k hk => .inr (Nat.le_trans hB (World.ownsRow.lt hO k hk).1)

end Go.Proofs.YtfoghemiaidnhaaGreat

/-
  The document's own parts.
-/
namespace Go.Proofs.YtfoghemiaidnhaaGreat
open Go.RowKit

theorem ext_mid (L : List UInt8) (f i : Nat) : (str L).extract f i = str ((L.drop f).take (i - f)) := by
  rw [Lib.extract_eq, str_data]; rfl

theorem ext_end (L : List UInt8) (f : Nat) : (str L).extract f (str L).size = str (L.drop f) := by
  rw [Lib.extract_eq, str_data, str_size, List.take_of_length_le (by simp)]; rfl

theorem mid_end (L : List UInt8) (f i : Nat) (hf : f ≤ i) (hi : i < L.length) : L.drop f = (L.drop f).take (i - f) ++ L[i] :: L.drop (i + 1) := by
  have h1 := (List.take_append_drop (i - f) (L.drop f)).symm
  rw [List.drop_drop, show f + (i - f) = i from by omega, List.drop_eq_getElem_cons hi] at h1
  exact h1

theorem mid_hit (L : List UInt8) (f i : Nat) (hf : f ≤ i) (hi : i < L.length) (hc : L[i] = 47) : L.drop f = (L.drop f).take (i - f) ++ 47 :: L.drop (i + 1) := by
  have h := mid_end L f i hf hi
  rw [hc] at h
  exact h

theorem mid_succ (L : List UInt8) (f i : Nat) (hf : f ≤ i) (hi : i < L.length) : (L.drop f).take (i + 1 - f) = (L.drop f).take (i - f) ++ [L[i]] := by
  rw [show i + 1 - f = (i - f) + 1 from by omega, List.take_succ_eq_append_getElem (by simp; omega)]
  congr 2
  rw [List.getElem_drop]
  congr 1
  omega

set_option maxHeartbeats 4000000 in
set_option maxRecDepth 100000 in
theorem rparts_call (L : List UInt8) (w : World) (hl : L.length ≤ 100000000000) :
    Calls Tryz.prog 75 #[.string (str L)] w fun e w' => ∃ v, e = .returned v ∧ OwnS w.heap.size w' v (partsB L) ∧ Kept [] w w' := by
  have hsz : ((str L).size : Int) = L.length := by rw [str_size]
  go_enter Tryz.func75, Tryz.ntmps75
  go_wp2_with fail
  go_loopw [3, 4, 5] (fun v fv iv wr => ∃ (f i : Nat) (done : List (List UInt8)), fv = .int .i64 f ∧ iv = .int .i64 i ∧ f ≤ i ∧ i ≤ L.length ∧ done.length ≤ i ∧ OwnS w.heap.size wr v done ∧ partsB L = done ++ partsB (L.drop f) ∧ (47 : UInt8) ∉ (L.drop f).take (i - f) ∧ Kept [] w wr) (fun _ _ iv _ => L.length - (intOf iv).toNat)
  case atStart => exact ⟨0, 0, [], rfl, rfl, Nat.le_refl _, Nat.zero_le _, Nat.zero_le _, OwnS.nil _ _, rfl, by simp, Kept.refl _ _⟩
  case round =>
    obtain ⟨f, i, done, rfl, rfl, hfi, hiL, hd, hO, hp, hno, hK⟩ := hrel
    have hf' : (f : Int) ≤ i := by omega
    have hBw := hK.size
    by_cases hlt : i < L.length
    · have hlt' : i < (str L).size := by rw [str_size]; exact hlt
      have hget : (str L)[i] = L[i] := rfl
      have hmid := ext_mid L f i
      by_cases hc : L[i] = 47
      · have hb : (((str L)[i].toNat : Int) == 47) = true := by rw [hget, hc]; rfl
        go_wp2_with (at_builtin; refine wp_push rfl _ _ rfl w.heap.size u3 done rfl (World.ownsRow.alloc hO _) wr.heap.size ((L.drop f).take (i - f)) rfl ?c1 (by omega) (by simp; omega) ?_)
        case c1 => rw [World.cell?_alloc_mark]; rfl
        intro v' w' hO' hg
        have hK' := grown_kept (hK.alloc _) (World.ownsRow.alloc hO _) (Nat.le_refl _) hg
        clear hg
        go_wp2
        go_roundw
        case rel =>
          refine ⟨i + 1, i + 1, done ++ [(L.drop f).take (i - f)], by simp, by simp, Nat.le_refl _, by omega, by simp; omega, hO', ?_, by simp, hK'⟩
          rw [hp, List.append_assoc]
          congr 1
          conv => lhs; rw [mid_hit L f i hfi hlt hc]
          rw [partsB_hit _ _ hno]; rfl
        case measure => simp [intOf]; omega
      · have hb : ((L[i].toNat : Int) == 47) = false := by
          have : L[i].toNat ≠ 47 := fun e => hc (UInt8.toNat_inj.1 e)
          simp; omega
        go_wp2_with fail
        go_roundw
        case rel => exact ⟨f, i + 1, done, rfl, by simp, by omega, by omega, by omega, hO, hp, by rw [mid_succ L f i hfi hlt]; simp only [List.mem_append, List.mem_singleton, not_or]; exact ⟨hno, fun e => hc e.symm⟩, hK⟩
        case measure => simp [intOf]; omega
    · obtain rfl : i = L.length := by omega
      have hno' : (47 : UInt8) ∉ L.drop f := by rwa [List.take_of_length_le (by simp)] at hno
      rw [partsB_miss _ hno'] at hp
      have hend := ext_end L f
      have hfi' : (f : Int) ≤ L.length := by omega
      go_wp2_with (at_builtin; refine wp_push rfl _ _ rfl w.heap.size u3 done rfl (World.ownsRow.alloc hO _) wr.heap.size (L.drop f) rfl ?c2 (by omega) (by simp; omega) ?_)
      case c2 => rw [World.cell?_alloc_mark]; rfl
      intro v' w' hO' hg
      have hK' := grown_kept (hK.alloc _) (World.ownsRow.alloc hO _) (Nat.le_refl _) hg
      clear hg
      rw [← hp] at hO'
      go_wp2
      go_ret
      exact ⟨v', rfl, hO', hK'⟩

end Go.Proofs.YtfoghemiaidnhaaGreat

/-
  The document's own Compare.
-/
namespace Go.Proofs.YtfoghemiaidnhaaGreat
open Go.RowKit

theorem Kept.drewN {S : List Nat} {a w : World} (h : Kept S a w) (n : Nat) : Kept S a (w.drewN n) := ⟨h.os, h.tape, h.output, h.size, h.block⟩

/-- A row of texts that is not empty, as a slice. -/
theorem OwnS.some {B : Nat} {w : World} {v : Value} {l : List (List UInt8)} (h : OwnS B w v l) (hne : l ≠ []) :
    ∃ g c, v = .slice (some ⟨g, 0, none⟩) l.length c ∧ l.length ≤ c ∧ ∀ (j : Nat) (hj : j < l.length), w.cell? ⟨g, j, none⟩ = some (.string (str l[j])) := by
  obtain ⟨ao, c, hv, hc, hcell⟩ := h.slice
  obtain ⟨g, hg, _⟩ := hcell 0 _ (List.getElem?_eq_getElem (List.length_pos_iff.2 hne))
  refine ⟨g, c, by rw [hv, hg], hc, fun j hj => ?_⟩
  obtain ⟨g', hg', hc'⟩ := hcell j _ (List.getElem?_eq_getElem hj)
  rw [hg] at hg'; cases hg'; exact hc'

theorem bytesLess_eq : ∀ a b : List UInt8, Op.bytesLess a b = (Lib.compareBytes a b == -1)
  | [], [] => rfl
  | [], _ :: _ => rfl
  | _ :: _, [] => rfl
  | x :: a, y :: b => by
    have ih := bytesLess_eq a b
    unfold Op.bytesLess Lib.compareBytes
    rw [ih]
    by_cases h1 : x < y
    · have : ¬ y < x := by rw [UInt8.lt_iff_toNat_lt] at h1 ⊢; omega
      simp [h1]
    · by_cases h2 : y < x
      · simp [h1, h2]
        intro e; subst e; exact absurd h2 h1
      · have : x = y := by
          rw [UInt8.lt_iff_toNat_lt] at h1 h2
          exact UInt8.toNat_inj.1 (by omega)
        simp [this]

theorem less_str (p q : List UInt8) : Op.bytesLess (str p).toList (str q).toList = (Lib.compareBytes p q == -1) := by rw [str_toList, str_toList, bytesLess_eq]

theorem same_str (p q : List UInt8) : ((str p).toList == (str q).toList) = (Lib.compareBytes p q == 0) := by
  rw [str_toList, str_toList, Bool.eq_iff_iff, beq_iff_eq, beq_iff_eq]; exact (ordB.zero p q).symm

theorem cmpP_drop {xs ys : List (List UInt8)} {i : Nat} (h1 : i < xs.length) (h2 : i < ys.length) : cmpP (xs.drop i) (ys.drop i) = if Lib.compareBytes xs[i] ys[i] = 0 then cmpP (xs.drop (i + 1)) (ys.drop (i + 1)) else Lib.compareBytes xs[i] ys[i] := by
  rw [List.drop_eq_getElem_cons h1, List.drop_eq_getElem_cons h2]; rfl

set_option maxHeartbeats 4000000 in
set_option maxRecDepth 100000 in
theorem rcompare_call (a b : List UInt8) (w : World) (ha : a.length ≤ 100000000000) (hb : b.length ≤ 100000000000) :
    Calls Tryz.prog 72 #[.string (str a), .string (str b)] w fun e w' => e = .returned (.int .i64 (cmpT a b)) ∧ Kept [] w w' := by
  obtain ⟨R, hR⟩ : ∃ R, R = cmpT a b := ⟨_, rfl⟩
  have hs0 : cmpP (partsB a) (partsB b) = R := hR.symm
  rw [← hR]
  clear hR
  go_enter Tryz.func72, Tryz.ntmps72
  go_wp2_with fail
  refine (rparts_call a _ ha).mono ?_
  rintro e w1 ⟨va, rfl, hO1, hK1⟩
  go_wp2_with fail
  refine (rparts_call b _ hb).mono ?_
  rintro e w2 ⟨vb, rfl, hO2, hK2⟩
  have hK : Kept [] w w2 := hK1.trans hK2 (by simp)
  have hO1' := hO1.kept hK2 (by simp)
  have n1 := partsB_ne a
  have n2 := partsB_ne b
  have l1 := partsB_le a
  have l2 := partsB_le b
  generalize partsB a = xs at *
  generalize partsB b = ys at *
  obtain ⟨ga, ca, rfl, hca, hxa⟩ := hO1'.some n1
  obtain ⟨gb, cb, rfl, hcb, hxb⟩ := hO2.some n2
  clear hO1 hO2 hO1' hK1 hK2
  go_wp2_with fail
  go_loopw [7] (fun iv wr => ∃ (i n : Nat), iv = .int .i64 i ∧ i ≤ xs.length ∧ i ≤ ys.length ∧ wr = w2.drewN n ∧ cmpP (xs.drop i) (ys.drop i) = R) (fun iv _ => xs.length - (intOf iv).toNat)
  case atStart => exact ⟨0, 0, rfl, Nat.zero_le _, Nat.zero_le _, rfl, hs0⟩
  case round =>
    obtain ⟨i, n, rfl, hix, hiy, rfl, hc⟩ := hrel
    clear hs0
    by_cases h1 : i < xs.length
    · by_cases h2 : i < ys.length
      · have c1 := hxa i h1
        have c2 := hxb i h2
        have h1i : (i : Int) < xs.length := by omega
        have h2i : (i : Int) < ys.length := by omega
        rw [cmpP_drop h1 h2] at hc
        have e1 := less_str xs[i] ys[i]
        have e2 := same_str xs[i] ys[i]
        rcases compare_vals xs[i] ys[i] with h3 | h3 | h3
        · rw [h3] at hc e1
          rw [if_neg (by decide)] at hc
          subst hc
          replace e1 : Op.bytesLess (str xs[i]).toList (str ys[i]).toList = true := e1
          go_wp2_with fail
          go_region
          go_wp2_with fail
          go_ret
          exact ⟨rfl, hK.drewN _⟩
        · rw [h3] at hc e1 e2
          rw [if_pos rfl] at hc
          replace e1 : Op.bytesLess (str xs[i]).toList (str ys[i]).toList = false := e1
          replace e2 : ((str xs[i]).toList == (str ys[i]).toList) = true := e2
          go_wp2_with fail
          go_region
          go_wp2_with fail
          go_region
          go_wp2_with fail
          go_roundw
          case rel => exact ⟨i + 1, n + 1 + 1, by simp, by omega, by omega, rfl, hc⟩
          case measure => simp [intOf]; omega
        · rw [h3] at hc e1 e2
          rw [if_neg (by decide)] at hc
          subst hc
          replace e1 : Op.bytesLess (str xs[i]).toList (str ys[i]).toList = false := e1
          replace e2 : ((str xs[i]).toList == (str ys[i]).toList) = false := e2
          go_wp2_with fail
          go_region
          go_wp2_with fail
          go_region
          go_wp2_with fail
          go_ret
          exact ⟨rfl, hK.drewN _⟩
      · have h2i : ¬ (i : Int) < ys.length := by omega
        have h3i : (ys.length : Int) < xs.length := by omega
        rw [List.drop_eq_getElem_cons h1, List.drop_of_length_le (l := ys) (by omega)] at hc
        replace hc : (1 : Int) = R := hc
        subst hc
        go_wp2_with fail
        go_ret
        exact ⟨rfl, hK.drewN _⟩
    · have h1i : ¬ (i : Int) < xs.length := by omega
      rw [List.drop_of_length_le (l := xs) (by omega)] at hc
      by_cases h2 : i < ys.length
      · have h3i : (xs.length : Int) < ys.length := by omega
        rw [List.drop_eq_getElem_cons h2] at hc
        replace hc : (-1 : Int) = R := hc
        subst hc
        go_wp2_with fail
        go_ret
        exact ⟨rfl, hK.drewN _⟩
      · have h3i : (xs.length : Int) = ys.length := by omega
        rw [List.drop_of_length_le (l := ys) (by omega)] at hc
        replace hc : (0 : Int) = R := hc
        subst hc
        go_wp2_with fail
        go_ret
        exact ⟨rfl, hK.drewN _⟩

end Go.Proofs.YtfoghemiaidnhaaGreat
