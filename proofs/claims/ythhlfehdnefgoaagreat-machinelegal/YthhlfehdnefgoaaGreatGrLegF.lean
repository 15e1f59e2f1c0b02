/-
  Legal, of commits that are.
-/
import Derived.Test.YthhlfehdnefgoaaGreatQ11
import Derived.Test.YthhlfehdnefgoaaGreatM15
namespace Go.Proofs.YthhlfehdnefgoaaGreat
open Go.RowKit

/-- A commit of a slice, and its changes. -/
theorem SlK.at {w : World} {ao : Option Addr} {n c : Nat} {K : List (Com × Value)} (h : SlK w ao n c K) {i : Nat} (hi : i < K.length) :
    ∃ b o mo m mc, ao = Option.some ⟨b, o, none⟩ ∧ w.cell? ⟨b, o + i * 4, none⟩ = Option.some (.int .i64 K[i].1.r) ∧ w.cell? ⟨b, o + i * 4 + 1, none⟩ = Option.some (.int .i64 K[i].1.b) ∧ w.cell? ⟨b, o + i * 4 + 2, none⟩ = Option.some (.string (str K[i].1.n)) ∧
      w.cell? ⟨b, o + i * 4 + 3, none⟩ = Option.some (.slice mo m mc) ∧ SlC w mo m mc K[i].1.c := by
  obtain ⟨b, o, e, h1⟩ := h.2.2.2.1 i hi
  obtain ⟨mo, m, mc, e2, h2, _⟩ := h.2.2.2.2 _ (List.getElem_mem hi)
  exact ⟨b, o, mo, m, mc, e, h1.c0, h1.c1, h1.c2, by rw [← e2]; exact h1.c3, h2⟩

def LgI (w : World) (n : Nat) (iv : Value) (wr : World) : Prop := ∃ i : Nat, iv = .int .i64 (i : Int) ∧ i ≤ n ∧ Hid (Kept [] w wr)

def LgK (w : World) (lo : Int) (i : Nat) (kv : Value) (wr : World) : Prop := ∃ k : Nat, kv = .int .i64 (k : Int) ∧ lo ≤ (k : Int) ∧ k ≤ i ∧ Hid (Kept [] w wr)

set_option maxHeartbeats 8000000 in
set_option maxRecDepth 100000 in
theorem legal_call (w : World) (ao : Option Addr) (n c : Nat) (K : List (Com × Value)) (hS : SlK w ao n c K) (hn : n ≤ 1000000) (hL : LegalC (K.map Prod.fst)) :
    Calls Tryz.prog 23 #[.slice ao n c] w fun e w' => e = .returned (.bool true) ∧ Kept [] w w' := by
  have hl := hS.1
  subst hl
  have hc := hS.2.1
  have hm := hS.2.2.1
  unfold maxLen at hm
  have HS : Hid (SlK w ao K.length c K) := hS
  have HL : Hid (LegalC (K.map Prod.fst)) := hL
  clear hS hL
  go_enter Tryz.func23, Tryz.ntmps23
  go_wp2_with fail
  go_loopw [3] (fun iv wr => LgI w K.length iv wr) (fun iv _ => K.length - (intOf iv).toNat)
  case atStart => exact ⟨0, rfl, Nat.zero_le _, Kept.refl _ _⟩
  case round =>
    obtain ⟨i, rfl, hi, HK⟩ := hrel
    by_cases hlt : i < K.length
    · have hlt' : (i : Int) < K.length := by omega
      have hic : i ≤ c := by omega
      obtain ⟨g, o, mo, m, mc, rfl, c0, c1, c2, c3, hsl⟩ := (HS.out.kept HK.out).at hlt
      have hrv := HL.out.rev i (by simpa using hlt)
      simp only [List.getElem_map] at hrv
      obtain ⟨hr1, hr2, hr3⟩ := hrv
      rw [hr1] at c0
      have HLs : Hid (SlC wr mo m mc K[i].1.c) := hsl
      have hml := hsl.1
      have hmc := hsl.2.1
      have hmm := hsl.2.2.1
      unfold maxLen at hmm
      obtain ⟨bs, hbs⟩ : ∃ bs, bs = K[i].1.b := ⟨_, rfl⟩
      rw [← hbs] at c1 hr2 hr3
      have hr2' : ¬ bs < 0 := by omega
      have hr3' : ¬ (i : Int) < bs := by omega
      have HBs : Hid (bs = K[i].1.b) := hbs
      obtain ⟨w2, hw2⟩ : ∃ w2, w2 = wr := ⟨_, rfl⟩
      subst hw2
      clear hr1 hsl hbs
      go_wp2_with fail
      go_loopw [4] (fun av wr => LgI w2 m av wr) (fun av _ => m - (intOf av).toNat)
      case atStart => exact ⟨0, rfl, Nat.zero_le _, Kept.refl _ _⟩
      case round =>
        obtain ⟨a, rfl, ha, HK2⟩ := hrel
        have c3 := HK2.out.cell c3 (by simp)
        by_cases hla : a < m
        · have hla' : (a : Int) < m := by omega
          have hac : a ≤ mc := by omega
          obtain ⟨g2, o2, rfl, hx⟩ := (HLs.out.kept HK2.out (by simp)).2.2.2 a (by omega)
          have d0 := hx.c0
          obtain ⟨pa, hpa⟩ : ∃ pa, pa = (K[i].1.c[a]'(by omega)).p := ⟨_, rfl⟩
          rw [← hpa] at d0
          have HPa : Hid (pa = (K[i].1.c[a]'(by omega)).p) := hpa
          obtain ⟨w3, hw3⟩ : ∃ w3, w3 = wr := ⟨_, rfl⟩
          subst hw3
          clear hx hpa
          go_wp2_with fail
          go_loopw [5] (fun bv wr => LgI w3 a bv wr) (fun bv _ => a - (intOf bv).toNat)
          case atStart => exact ⟨0, rfl, Nat.zero_le _, Kept.refl _ _⟩
          case round =>
            obtain ⟨q, rfl, hq, HK3⟩ := hrel
            have e3 := HK3.out.cell c3 (by simp)
            have e0 := HK3.out.cell d0 (by simp)
            by_cases hlq : q < a
            · have hlq' : (q : Int) < a := by omega
              have hqc : q ≤ mc := by omega
              have hqm : (q : Int) < m := by omega
              obtain ⟨g3, o3, he3, hy⟩ := ((HLs.out.kept HK2.out (by simp)).kept HK3.out (by simp)).2.2.2 q (by omega)
              obtain ⟨rfl, rfl⟩ : g2 = g3 ∧ o2 = o3 := by simpa using he3
              have f0 := hy.c0
              have hne : ((str pa).toList == (str (K[i].1.c[q]'(by omega)).p).toList) = false := by
                rw [str_eqC, HPa.out]
                have := HL.out.once i (by simpa using hlt) a q (by simp; omega) (by simp; omega) hlq
                simpa using this
              clear hy he3
              generalize (K[i].1.c[q]'(by omega)).p = pq at *
              go_wp2_with fail
              go_region_held3 (fun w' => w'.cell? ⟨g, o + i * 4 + 3, none⟩ = some (.slice (some ⟨g2, o2, none⟩) m mc) ∧ w'.cell? ⟨g2, o2 + a * 3, none⟩ = some (.string (str pa)) ∧ w'.cell? ⟨g2, o2 + q * 3, none⟩ = some (.string (str pq)))
                (go_keep) (fail)
              go_wp2_with fail
              go_roundw
              case rel => exact ⟨q + 1, by go_num, by omega, HK3.out.drew⟩
              case measure => simp [intOf]; omega
            · have hlq' : ¬ (q : Int) < a := by omega
              have e1 := HK3.out.cell (HK2.out.cell c1 (by simp)) (by simp)
              obtain ⟨w4, hw4⟩ : ∃ w4, w4 = wr := ⟨_, rfl⟩
              subst hw4
              have HK4 : Hid (Kept [] w w4) := (HK.out.trans HK2.out (by simp)).trans HK3.out (by simp)
              have HK24 : Hid (Kept [] w2 w4) := HK2.out.trans HK3.out (by simp)
              go_wp2_with fail
              go_loopw [6] (fun kv wr => LgK w4 bs i kv wr) (fun kv _ => i - (intOf kv).toNat)
              case atStart => exact ⟨bs.toNat, by rw [Int.toNat_of_nonneg hr2], by omega, by omega, Kept.refl _ _⟩
              case round =>
                obtain ⟨k, rfl, hk1, hk2, HK5⟩ := hrel
                by_cases hlk : k < i
                · have hlk' : (k : Int) < i := by omega
                  have hkc : k ≤ c := by omega
                  have hkn : (k : Int) < K.length := by omega
                  obtain ⟨g4, o4, mo4, m4, mc4, he4, _, _, _, h43, hsl4⟩ := ((HS.out.kept HK4.out).kept HK5.out).at (show k < K.length by omega)
                  obtain ⟨rfl, rfl⟩ : g = g4 ∧ o = o4 := by simpa using he4
                  have HL4 : Hid (SlC wr mo4 m4 mc4 (K[k]'(by omega)).1.c) := hsl4
                  have hml4 := hsl4.1
                  have hmc4 := hsl4.2.1
                  have hmm4 := hsl4.2.2.1
                  unfold maxLen at hmm4
                  have p3 := HK5.out.cell e3 (by simp)
                  have p0 := HK5.out.cell e0 (by simp)
                  obtain ⟨w5, hw5⟩ : ∃ w5, w5 = wr := ⟨_, rfl⟩
                  subst hw5
                  clear hsl4 he4
                  go_wp2_with fail
                  go_loopw [7] (fun bv wr => LgI w5 m4 bv wr) (fun bv _ => m4 - (intOf bv).toNat)
                  case atStart => exact ⟨0, rfl, Nat.zero_le _, Kept.refl _ _⟩
                  case round =>
                    obtain ⟨r, rfl, hr0, HK6⟩ := hrel
                    have q3 := HK6.out.cell h43 (by simp)
                    have s3 := HK6.out.cell p3 (by simp)
                    have s0 := HK6.out.cell p0 (by simp)
                    by_cases hlr : r < m4
                    · have hlr' : (r : Int) < m4 := by omega
                      have hrc : r ≤ mc4 := by omega
                      obtain ⟨g6, o6, rfl, hy⟩ := (HL4.out.kept HK6.out (by simp)).2.2.2 r (by omega)
                      have f6 := hy.c0
                      have hne6 : ((str ((K[k]'(by omega)).1.c[r]'(by omega)).p).toList == (str pa).toList) = false := by
                        rw [str_eqC, HPa.out]
                        have := HL.out.apart i (by simpa using hlt) k hlk (by simp only [List.getElem_map]; rw [← HBs.out]; exact hk1) (K[i].1.c[a]'(by omega)) (by simp) ((K[k]'(by omega)).1.c[r]'(by omega)) (by simp)
                        simpa using this
                      clear hy
                      generalize ((K[k]'(by omega)).1.c[r]'(by omega)).p = pr at *
                      go_wp2_with fail
                      go_region_held3 (fun w' => w'.cell? ⟨g, o + i * 4 + 3, none⟩ = some (.slice (some ⟨g2, o2, none⟩) m mc) ∧ w'.cell? ⟨g2, o2 + a * 3, none⟩ = some (.string (str pa)) ∧ w'.cell? ⟨g, o + k * 4 + 3, none⟩ = some (.slice (some ⟨g6, o6, none⟩) m4 mc4) ∧ w'.cell? ⟨g6, o6 + r * 3, none⟩ = some (.string (str pr)))
                        (go_keep) (fail)
                      go_wp2_with fail
                      go_roundw
                      case rel => exact ⟨r + 1, by go_num, by omega, HK6.out.drew⟩
                      case measure => simp [intOf]; omega
                    · have hlr' : ¬ (r : Int) < m4 := by omega
                      have HK7 : Hid (Kept [] w4 wr) := HK5.out.trans HK6.out (by simp)
                      go_wp2_with fail
                      go_roundw
                      case rel => exact ⟨k + 1, by go_num, by omega, by omega, HK7⟩
                      case measure => simp [intOf]; omega
                · have hlk' : ¬ (k : Int) < i := by omega
                  have HK7 : Hid (Kept [] w2 wr) := HK24.out.trans HK5.out (by simp)
                  go_wp2_with fail
                  go_roundw
                  case rel => exact ⟨a + 1, by go_num, by omega, HK7⟩
                  case measure => simp [intOf]; omega
        · have hla' : ¬ (a : Int) < m := by omega
          have HK7 : Hid (Kept [] w wr) := HK.out.trans HK2.out (by simp)
          go_wp2_with fail
          go_roundw
          case rel => exact ⟨i + 1, by go_num, by omega, HK7⟩
          case measure => simp [intOf]; omega
    · have hlt' : ¬ (i : Int) < K.length := by omega
      go_wp2_with fail
      go_ret
      exact ⟨rfl, HK.out⟩

end Go.Proofs.YthhlfehdnefgoaaGreat
