/-
  ChangeSorts: the walk.
-/
import Derived.Test.YtdmlcgmajpjmdaaChAwake
import Derived.Test.YtdmlcgmajpjmdaaChRefS
import Derived.Deep.CutRange
namespace Go.Proofs.Ytdmlcgmajpjmdaa
open Go.RowKit

theorem checkOK_sort (L : List Ch) : CheckOK (sortC L) ↔ CheckOK L := by
  rw [checkOK_iff, checkOK_iff, sortC_length]
  have hp := (sortC_alike L).perm
  have h1 : (∀ x ∈ sortC L, mayB x = true) ↔ ∀ x ∈ L, mayB x = true := ⟨fun h x hx => h x (hp.mem_iff.1 hx), fun h x hx => h x (hp.mem_iff.2 hx)⟩
  have h2 : ((sortC L).map Ch.p).Nodup ↔ (L.map Ch.p).Nodup := ((hp.map Ch.p).nodup_iff).symm
  rw [h1, h2]

theorem errC_sort (L : List Ch) : errC (sortC L) = errC L := by
  by_cases h : CheckOK L
  · rw [errC_ok h, errC_ok ((checkOK_sort L).2 h)]
  · rw [errC_bad h, errC_bad (fun h1 => h ((checkOK_sort L).1 h1))]

theorem sort_rise (L : List Ch) {j i : Nat} (h : i = j + 1) (hi : i < (sortC L).length) : cmpT ((sortC L)[j]'(by omega)).p (sortC L)[i].p ≤ 0 ∧ (errC L = 0 → cmpT ((sortC L)[j]'(by omega)).p (sortC L)[i].p ≠ 0) := by
  have hR := sortC_ris L
  unfold Ris at hR
  rw [List.pairwise_iff_getElem] at hR
  refine ⟨hR j i (by omega) hi (by omega), fun he hz => ?_⟩
  have hC := (checkOK_sort L).2 (errC_zero.1 he)
  exact (hC.2.2 i hi).2 j (by omega) ((ordT.zero _ _).1 hz)

theorem sort_has (L : List Ch) {i : Nat} (hi : i < L.length) : ∃ q, ∃ (hq : q < (sortC L).length), (sortC L)[q] = L[i] := by
  have := ((sortC_alike L).mem L[i]).1 (List.getElem_mem hi)
  obtain ⟨q, hq, e⟩ := List.getElem_of_mem this
  exact ⟨q, hq, e⟩

/-- Rising, and, if they may be, of unlike paths. -/
def RiseS (S : List Ch) (er : Int) : Prop := ∀ j i (hj : j < S.length) (hi : i < S.length), i = j + 1 → cmpT S[j].p S[i].p ≤ 0 ∧ (er = 0 → cmpT S[j].p S[i].p ≠ 0)
/-- It has them all. -/
def HasS (S L : List Ch) : Prop := ∀ i (hi : i < L.length), ∃ q, ∃ (hq : q < S.length), S[q] = L[i]

def SoI (w : World) (n : Nat) (iv : Value) (wr : World) : Prop := ∃ i : Nat, iv = .int .i64 i ∧ 1 ≤ i ∧ (i ≤ n ∨ i = 1) ∧ Kept [] w wr
def SoJ (w : World) (n : Nat) (nv iv : Value) (wr : World) : Prop := ∃ i : Nat, nv = .int .i64 i ∧ iv = .int .i64 i ∧ i ≤ n ∧ Kept [] w wr
def SoK (w : World) (S : List Ch) (x : Ch) (i : Nat) (nv kv : Value) (wr : World) : Prop := ∃ k : Nat, nv = .int .i64 i ∧ kv = .int .i64 k ∧ k ≤ S.length ∧ (∀ q (hq : q < S.length), q < k → S[q] ≠ x) ∧ Kept [] w wr

set_option maxHeartbeats 8000000 in
set_option maxRecDepth 100000 in
theorem sorts_walk (w : World) (ao : Option Addr) (n c : Nat) (L : List Ch) (hL : SlC w ao n c L) (hz : ao = none → c = 0) :
    Calls Try.prog 5 #[.slice ao n c] w fun e w' => e = .returned (.bool true) ∧ Kept [] w w' := by
  have cL := fun W (h : Kept [] w W) => room_callC W ao n c L (hL.kept h (by simp))
  rcases hrL : roomyC L with _ | _
  · rw [hrL] at cL
    clear hL hrL
    go_enter Try.func5, Try.ntmps5
    go_wp2_with fail
    refine (awake_callC _).mono ?_
    rintro e w1 ⟨rfl, hK1⟩
    go_wp2_with fail
    refine (cL _ hK1).mono ?_
    rintro e w' ⟨rfl, rfl⟩
    go_wp2_with fail
    go_ret
    exact ⟨rfl, hK1⟩
  rw [hrL] at cL
  obtain ⟨hl1, hl2⟩ := roomyC_iff.1 hrL
  have HLn : Hid (L.length = n) := hL.1
  have hn : n ≤ 300 := by have := hL.1; omega
  have hnc := hL.2.1
  have hcm := hL.2.2.1
  unfold maxLen at hcm
  have cS := fun W (h : Kept [] w W) => sorted_call W ao n c L (hL.kept h (by simp)) hz (by omega) (fun x hx => by have := hl2 x hx; omega)
  have cC := fun W (h : Kept [] w W) => check_call W ao n c L (hL.kept h (by simp)) (fun x hx => by have := hl2 x hx; omega)
  have hSp : ∀ x ∈ sortC L, x.p.length ≤ 300 := fun x hx => hl2 x (((sortC_alike L).mem x).2 hx)
  have cD := fun W a4 c4 (h : SlC W a4 n c4 (sortC L)) => check_call W a4 n c4 (sortC L) h (fun x hx => by have := hSp x hx; omega)
  rw [errC_sort] at cD
  have HSn : Hid ((sortC L).length = n) := by show _ = _; rw [sortC_length]; exact hL.1
  have HRi : Hid (RiseS (sortC L) (errC L)) := fun j i _ hi h => sort_rise L h hi
  have HHa : Hid (HasS (sortC L) L) := fun i hi => sort_has L hi
  have HSp : Hid (∀ x ∈ sortC L, x.p.length ≤ 300) := hSp
  have HL : Hid (SlC w ao n c L) := hL
  have HZ : Hid (ao = none → c = 0) := hz
  generalize errC L = er at *
  generalize sortC L = S at *
  clear hL hrL hl1 hl2 hSp hz
  go_enter Try.func5, Try.ntmps5
  go_wp2_with fail
  refine (awake_callC _).mono ?_
  rintro e w1 ⟨rfl, hK1⟩
  go_wp2_with fail
  refine (cL _ hK1).mono ?_
  rintro e w1 ⟨rfl, rfl⟩
  have HK1 : Hid (Kept [] w w1) := hK1
  clear hK1 cL
  go_upto_region 5 with fail
  go_cut [3] from 11 to 18 (fun s3 wx => OwnC w1.heap.size wx s3 L ∧ Kept [] w wx)
  case first =>
    have hA := (Kept.refl [] w1).alloc (.cells #[] 27)
    have hO0 := own_voidC w1 w1.heap.size (Nat.le_refl _)
    cases ao with
    | none =>
      obtain rfl := HZ.out rfl
      obtain rfl : n = 0 := by omega
      have HLe : Hid (L = []) := by show L = []; simpa using HLn.out
      go_wp2_with fail
      go_meet
      exact ⟨by rw [HLe.out]; exact hO0, HK1.out.trans hA (by simp)⟩
    | some ad =>
      have HR : Hid (∀ (j : Nat) (u : Value), (L.flatMap chC)[j]? = some u → (w1.alloc (.cells #[] 27)).cell? (ad.add j) = some u) := ((HL.out.kept HK1.out (by simp)).kept hA (by simp)).runs'
      go_wp2_with (at_builtin; refine wp_appC rfl _ _ rfl w1.heap.size _ [] rfl hO0 ad n c L rfl HLn.out.symm HR.out (by rw [HLn.out]; simp; omega) (by simp) ?a1)
      case a1 =>
        intro v2 w2 hO2 hg2
        have hK2 : Kept [] w w2 := HK1.out.trans (grown_keptC hA hO0 (Nat.le_refl _) hg2) (by simp)
        have HO2 : Hid (OwnC w1.heap.size w2 v2 L) := hO2
        clear hO0 hg2 hO2 HR
        go_wp2_with fail
        go_meet
        exact ⟨HO2.out, hK2⟩
  case rest =>
    obtain ⟨hO3, hK3⟩ := hcut
    obtain ⟨a3, c3, hv3, hS3⟩ := hO3.sl
    rw [HLn.out] at hv3 hS3
    subst hv3
    have HS3 : Hid (SlC wc a3 n c3 L) := hS3
    clear hO3 hS3
    go_wp2_with fail
    refine (cS _ hK3).mono ?_
    rintro e w4 ⟨v4, rfl, hO4, hK4⟩
    obtain ⟨a4, c4, hv4, hS4⟩ := hO4.sl
    rw [HSn.out] at hv4 hS4
    subst hv4
    have HS4 : Hid (SlC w4 a4 n c4 S) := hS4
    have hK4w := hK3.trans hK4 (by simp)
    have cE := rsame_kept w4 _ _ _ _ _ _ _ _ (HL.out.kept hK4w (by simp)) (HS3.out.kept hK4 (by simp))
    rw [decide_eq_true rfl] at cE
    have hc4 := hS4.2.1
    have hc4m := hS4.2.2.1
    unfold maxLen at hc4m
    clear hO4 hS4 cS HS3 hK3 hK4
    go_wp2_with fail
    refine cE.mono ?_
    rintro e w5 ⟨rfl, hK5⟩
    have hK5w := hK4w.trans hK5 (by simp)
    clear cE
    go_wp2_with fail
    refine (cC _ hK5w).mono ?_
    rintro e w6 ⟨rfl, hK6⟩
    have HK6 : Hid (Kept [] w w6) := hK5w.trans hK6 (by simp)
    have HS6 : Hid (SlC w6 a4 n c4 S) := (HS4.out.kept hK5 (by simp)).kept hK6 (by simp)
    have HOK : Hid ((er == 0) = true → er = 0) := fun h => by simpa using h
    obtain ⟨okb, hok⟩ : ∃ okb, (er == 0) = okb := ⟨_, rfl⟩
    rw [hok] at HOK
    clear hK4w hK5 hK6 hK5w cC HS4
    go_wp2_with fail
    go_loopw [6] (fun iv wr => SoI w6 n iv wr) (fun iv _ => n - (intOf iv).toNat)
    case atStart => exact ⟨1, rfl, Nat.le_refl _, .inr rfl, Kept.refl _ _⟩
    case round =>
      obtain ⟨i, rfl, hi1, hi2, hKr⟩ := hrel
      have HKr : Hid (Kept [] w6 wr) := hKr
      clear hKr
      by_cases hlt : i < n
      · have hlt' : (i : Int) < n := by omega
        obtain ⟨j, hj⟩ : ∃ j, i = j + 1 := ⟨i - 1, by omega⟩
        have HJ : Hid (i = j + 1) := hj
        have b1 : (0 : Int) ≤ j := by omega
        have b2 : (j : Int) < n := by omega
        have b3 : (0 : Int) ≤ i := by omega
        have b5 : IntKind.i64.wrap ((i : Int) - 1) = j := by rw [IntWalk.i64_in _ (by omega)]; omega
        have hiS : i < S.length := by rw [HSn.out]; exact hlt
        have hjS : j < S.length := by rw [HSn.out]; omega
        obtain ⟨g, o, hao, hx⟩ := HS6.out.2.2.2 i hiS
        obtain ⟨g', o', hao', hy⟩ := HS6.out.2.2.2 j hjS
        subst hao
        obtain ⟨rfl, rfl⟩ : g = g' ∧ o = o' := by simpa using hao'
        have c0 := (hx.kept HKr.out (by simp)).c0
        have d0 := (hy.kept HKr.out (by simp)).c0
        obtain ⟨hr1, hr2⟩ := HRi.out j i hjS hiS hj
        have cc := fun W => compare_call S[j].p S[i].p W (by have := HSp.out _ (List.getElem_mem hjS); omega) (by have := HSp.out _ (List.getElem_mem hiS); omega)
        generalize S[i] = x at *
        generalize S[j] = y at *
        obtain ⟨z, hzz⟩ : ∃ z, z = cmpT y.p x.p := ⟨_, rfl⟩
        rw [← hzz] at cc hr1 hr2
        have hz1 : ¬ (0 : Int) < z := by omega
        have HZ2 : Hid (okb = true → (z == 0) = false) := fun h => by simpa using hr2 (HOK.out h)
        clear hx hy hao' hj hiS hjS hzz hr1 hr2
        go_wp2_with fail
        go_region_held3 (fun w' => w'.cell? ⟨g, o + j * 3, none⟩ = some (.string (str y.p)) ∧ w'.cell? ⟨g, o + i * 3, none⟩ = some (.string (str x.p)))
          (first | go_keep | exact ⟨hK1.cell d0 (by simp), hK1.cell c0 (by simp)⟩)
          (first | (go_at_call 15; refine (cc _).mono ?_; rintro e w7 ⟨rfl, hKb⟩; have hK1 : Kept [] wr w7 := (Kept.refl [] wr).drew.trans hKb (by simp)))
        have HK7 : Hid (Kept [] w6 w7) := HKr.out.trans hK1 (by simp)
        clear cc c0 d0 hKb hK1 b5
        cases okb with
        | true =>
          have hz2 := HZ2.out rfl
          go_wp2_with fail
          go_roundw
          case rel => exact ⟨i + 1, by go_num, by omega, .inl (by omega), HK7.out⟩
          case measure => simp [intOf]; omega
        | false =>
          go_wp2_with fail
          go_roundw
          case rel => exact ⟨i + 1, by go_num, by omega, .inl (by omega), HK7.out⟩
          case measure => simp [intOf]; omega
      · have hlt' : ¬ (i : Int) < n := by omega
        go_wp2_with fail
        go_loopw [8, 9] (fun nv iv wr => SoJ w6 n nv iv wr) (fun _ iv _ => n - (intOf iv).toNat)
        case atStart => exact ⟨0, rfl, rfl, Nat.zero_le _, HKr.out⟩
        case round =>
          clear HKr hlt hlt' hi1 hi2
          obtain ⟨i, rfl, rfl, hin, hKr⟩ := hrel
          have HKr : Hid (Kept [] w6 wr) := hKr
          clear hKr
          by_cases hlt : i < n
          · have hlt' : (i : Int) < n := by omega
            have hiL : i < L.length := by rw [HLn.out]; exact hlt
            obtain ⟨b, o, hao, hx⟩ := HL.out.2.2.2 i hiL
            subst hao
            have HX : Hid (ChAt w b (o + i * 3) L[i]) := hx
            have HQ : Hid (∃ q, ∃ (hq : q < S.length), S[q] = L[i]) := HHa.out i hiL
            generalize L[i] = x at *
            clear hx hiL
            go_wp2_with fail
            go_loopw [8, 10] (fun nv kv wr => SoK w6 S x i nv kv wr) (fun _ kv _ => n - (intOf kv).toNat)
            case atStart => exact ⟨0, rfl, rfl, Nat.zero_le _, fun q _ h => by omega, HKr.out⟩
            case round =>
              obtain ⟨k, rfl, rfl, hkS, hne, hKs⟩ := hrel
              have HKs : Hid (Kept [] w6 wr) := hKs
              have HNE : Hid (∀ q (hq : q < S.length), q < k → S[q] ≠ x) := hne
              clear hKs hne
              have hk : k < S.length := by
                obtain ⟨q, hq, e⟩ := HQ.out
                by_cases h : q < k
                · exact absurd e (HNE.out q hq h)
                · omega
              have hkn : k < n := by rw [← HSn.out]; exact hk
              have hkn' : (k : Int) < n := by omega
              obtain ⟨g, p, hao, hy⟩ := HS6.out.2.2.2 k hk
              subst hao
              obtain ⟨d0, d1, d2⟩ := hy.kept HKs.out (by simp)
              obtain ⟨c0, c1, c2⟩ := (HX.out.kept HK6.out (by simp)).kept HKs.out (by simp)
              obtain ⟨y, hye⟩ : ∃ y, y = S[k] := ⟨_, rfl⟩
              have HY : Hid (y = S[k]) := hye
              rw [← hye] at d0 d1 d2
              clear hy hye hkS
              rcases ch_parts y x with ⟨he, e0, e1, e2⟩ | ⟨he, hne⟩
              · clear he
                go_wp2_with fail
                go_region
                go_wp2_with fail
                go_roundw
                case rel => exact ⟨i + 1, by go_num, by go_num, by omega, HKs.out.drew⟩
                case measure => simp [intOf]; omega
              · have HE : Hid (∀ q (hq : q < S.length), q < k + 1 → S[q] ≠ x) := fun q hq h => by
                  by_cases e : q = k
                  · subst e; rw [← HY.out]; exact he
                  · exact HNE.out q hq (by omega)
                clear he
                rcases hne with e0 | ⟨e0, e1⟩ | ⟨e0, e1, e2⟩
                all_goals
                  go_wp2_with fail
                  go_region
                  go_wp2_with fail
                  go_roundw
                  case rel => exact ⟨k + 1, rfl, by go_num, by omega, HE.out, HKs.out.drew⟩
                  case measure => simp [intOf]; omega
          · have hlt' : ¬ (i : Int) < n := by omega
            have hin' : (i : Int) = n := by omega
            have hD := cD wr a4 c4 (HS6.out.kept HKr.out (by simp))
            clear cD
            go_wp2_with fail
            refine hD.mono ?_
            rintro e w8 ⟨rfl, hK8⟩
            have HK8 : Hid (Kept [] w w8) := (HK6.out.trans HKr.out (by simp)).trans hK8 (by simp)
            clear hD hK8
            go_wp2_with fail
            go_ret
            exact ⟨by simp, HK8.out⟩

end Go.Proofs.Ytdmlcgmajpjmdaa
