/-
  The document's own Check.
-/
import Derived.Test.YtfoghemiaidnhaaGreatChChk
import Derived.Test.YtfoghemiaidnhaaGreatM6
import Derived.Deep.CutRange
namespace Go.Proofs.YtfoghemiaidnhaaGreat
open Go.RowKit

/-- The first i may be. -/
def OkTo (L : List Ch) (i : Nat) : Prop := ∀ q (hq : q < L.length), q < i → mayB L[q] = true ∧ ∀ k (hk : k < q), L[k].p ≠ L[q].p

def RchI (w : World) (L : List Ch) (bv iv : Value) (wr : World) : Prop :=
  ∃ (i : Nat) (B : Bool), bv = .bool B ∧ iv = .int .i64 i ∧ i ≤ L.length ∧ (B = true → ¬ CheckOK L) ∧ (B = false → OkTo L i) ∧ Kept [] w wr

def RchJ (w : World) (L : List Ch) (x : Ch) (i : Nat) (bv kv : Value) (wr : World) : Prop :=
  ∃ (k : Nat) (B : Bool), bv = .bool B ∧ kv = .int .i64 k ∧ k ≤ i ∧ (B = true ↔ (mayB x = false ∨ ∃ j, ∃ (hj : j < L.length), j < k ∧ L[j].p = x.p)) ∧ Kept [] w wr

theorem rchJ_start (L : List Ch) (x : Ch) : (!mayB x) = true ↔ (mayB x = false ∨ ∃ j, ∃ (hj : j < L.length), j < 0 ∧ L[j].p = x.p) := by
  constructor
  · intro h
    exact .inl (by simpa using h)
  · rintro (h | ⟨j, _, h, _⟩)
    · rw [h]; rfl
    · omega

set_option maxHeartbeats 8000000 in
theorem rcheck_call (w : World) (ao : Option Addr) (n c : Nat) (L : List Ch) (hS : SlC w ao n c L) (hp : ∀ x ∈ L, x.p.length ≤ 1000000000) :
    Calls Tryz.prog 38 #[.slice ao n c] w fun e w' => e = .returned (.int .i64 (errC L)) ∧ Kept [] w w' := by
  have hl := hS.1
  subst hl
  have hc := hS.2.1
  have hm := hS.2.2.1
  unfold maxLen at hm
  by_cases h0 : L.length = 0
  · rw [errC_bad (fun h => by have := h.1; omega)]
    have e0 : L = [] := by simpa using h0
    subst e0
    clear hS
    go_enter Tryz.func38, Tryz.ntmps38
    go_wp2_with fail
    refine wp_loop_rounds 1 ?_
    rw [rounds_succ]
    go_wp2_with fail
    go_ret
    exact ⟨rfl, Kept.refl _ _⟩
  have h0' : ((L.length : Int) == 0) = false := by simp [h0]
  have hpos : (0 : Int) < L.length := by omega
  by_cases h1 : 16 < L.length
  · rw [errC_bad (fun h => by have := h.2.1; omega)]
    have h1' : (16 : Int) < L.length := by omega
    clear hS
    go_enter Tryz.func38, Tryz.ntmps38
    go_wp2_with fail
    refine wp_loop_rounds 1 ?_
    rw [rounds_succ]
    go_wp2_with fail
    go_ret
    exact ⟨rfl, Kept.refl _ _⟩
  have h1' : ¬ (16 : Int) < L.length := by omega
  obtain ⟨b, o, hao, _⟩ := hS.some (by omega)
  subst hao
  have HS : Hid (SlC w (some ⟨b, o, none⟩) L.length c L) := hS
  have HP : Hid (∀ x ∈ L, x.p.length ≤ 1000000000) := hp
  obtain ⟨R, hR⟩ : ∃ R, R = errC L := ⟨_, rfl⟩
  rw [← hR]
  have HR : Hid (R = errC L) := hR
  clear hS hp hR
  go_enter Tryz.func38, Tryz.ntmps38
  go_wp2_with fail
  go_loopw [3, 4] (fun bv iv wr => RchI w L bv iv wr) (fun _ iv _ => L.length - (intOf iv).toNat)
  case atStart => exact ⟨0, false, rfl, rfl, Nat.zero_le _, (fun h => by cases h), fun _ q _ h => by omega, Kept.refl _ _⟩
  case round =>
    obtain ⟨i, B, rfl, rfl, hi, hb1, hb2, hK'⟩ := hrel
    have HK : Hid (Kept [] w wr) := hK'
    clear hK'
    cases B with
    | true =>
      have HE : Hid (R = 1) := by show R = 1; rw [HR.out]; exact errC_bad (hb1 rfl)
      clear hb1 hb2
      by_cases hlt : i < L.length
      · have hlt' : (i : Int) < L.length := by omega
        go_wp2_with fail
        go_ret
        exact ⟨by rw [HE.out]; rfl, HK.out⟩
      · have hlt' : ¬ (i : Int) < L.length := by omega
        go_wp2_with fail
        go_ret
        exact ⟨by rw [HE.out]; rfl, HK.out⟩
    | false =>
      have HO : Hid (OkTo L i) := hb2 rfl
      clear hb1 hb2
      by_cases hlt : i < L.length
      · have hlt' : (i : Int) < L.length := by omega
        obtain ⟨g', o', hao, hx⟩ := HS.out.2.2.2 i hlt
        obtain ⟨rfl, rfl⟩ : b = g' ∧ o = o' := by simpa using hao
        obtain ⟨x, hxe⟩ : ∃ x, x = L[i] := ⟨_, rfl⟩
        have HX : Hid (x = L[i]) := hxe
        rw [← hxe] at hx
        have hxw := hx.kept HK.out (by simp)
        have c0 := hxw.c0
        have hxp : x.p.length ≤ 1000000000 := by rw [hxe]; exact HP.out _ (List.getElem_mem hlt)
        have cN := fun W => rnormal_call x.p W hxp
        have HXW : Hid (ChAt wr b (o + i * 3) x) := hxw
        clear hx hxe hao hxp hxw
        go_wp2_with fail
        refine (cN _).mono ?_
        rintro e w2 ⟨rfl, hK2⟩
        have HK2 : Hid (Kept [] w w2) := HK.out.trans hK2 (by simp)
        obtain ⟨c0, c1, c2⟩ := HXW.out.kept hK2 (by simp)
        clear cN hK2 HXW
        obtain ⟨P1, P2, hP, hPv⟩ : ∃ P1 P2, tup (normB x.p) = .tuple #[.string P1, .bool P2] ∧ mayB x = ((P2 && (P1.toList == (str x.p).toList)) && !(x.g && !(x.d == 0))) := by
          cases hn : normB x.p with
          | none => exact ⟨_, _, rfl, by unfold mayB; rw [hn]; simp⟩
          | some q => exact ⟨_, _, rfl, by unfold mayB; rw [hn, str_eqC]; simp⟩
        rw [hP]
        have HPV : Hid (mayB x = ((P2 && (P1.toList == (str x.p).toList)) && !(x.g && !(x.d == 0)))) := hPv
        clear hP hPv
        go_upto_region 6 with fail
        go_cut [3] from 35 to 60 (fun s3 wx => s3 = .bool (!mayB x) ∧ w2 = wx)
        case first =>
          obtain ⟨r, hr⟩ : ∃ r, (P1.toList == (str x.p).toList) = r := ⟨_, rfl⟩
          have HV : Hid (mayB x = ((P2 && r) && !(x.g && !(x.d == 0)))) := by
            show mayB x = ((P2 && r) && !(x.g && !(x.d == 0)))
            rw [HPV.out, hr]
          obtain ⟨xp, xg, xd⟩ := x
          simp only at c0 c1 c2 hr
          cases P2
          · go_wp2_with fail
            go_meet
            exact ⟨by rw [HV.out]; simp, rfl⟩
          · cases r
            · have hr2 : (P1.toList != (str xp).toList) = true := by rw [bne, hr]; rfl
              go_wp2_with fail
              go_meet
              exact ⟨by rw [HV.out]; simp, rfl⟩
            · have hr2 : (P1.toList != (str xp).toList) = false := by rw [bne, hr]; rfl
              cases xg
              · go_wp2_with fail
                go_meet
                exact ⟨by rw [HV.out]; simp, rfl⟩
              · go_wp2_with fail
                go_meet
                exact ⟨by rw [HV.out]; simp [bne], rfl⟩
        case rest =>
          obtain ⟨rfl, rfl⟩ := hcut
          go_wp2_with fail
          go_loopw [3, 7] (fun bv kv wr => RchJ w L x i bv kv wr) (fun _ kv _ => i - (intOf kv).toNat)
          case atStart => exact ⟨0, !mayB x, rfl, rfl, Nat.zero_le _, rchJ_start L x, HK2.out⟩
          case round =>
            obtain ⟨k, B, rfl, rfl, hk, hB, hK'⟩ := hrel
            have HK3 : Hid (Kept [] w wr) := hK'
            have HB : Hid (B = true ↔ (mayB x = false ∨ ∃ j, ∃ (hj : j < L.length), j < k ∧ L[j].p = x.p)) := hB
            clear hK' hB
            by_cases hki : k < i
            · have hki' : (k : Int) < i := by omega
              obtain ⟨g1, o1, e1, hy⟩ := HS.out.2.2.2 k (by omega)
              obtain ⟨g2, o2, e2, hx⟩ := HS.out.2.2.2 i hlt
              obtain ⟨rfl, rfl⟩ : b = g1 ∧ o = o1 := by simpa using e1
              obtain ⟨rfl, rfl⟩ : b = g2 ∧ o = o2 := by simpa using e2
              have d0 := (hy.kept HK3.out (by simp)).c0
              have f0 := (hx.kept HK3.out (by simp)).c0
              have hkn : (k : Int) < L.length := by omega
              rw [← HX.out] at f0
              have he := str_eqC (L[k]'(by omega)).p x.p
              obtain ⟨r, hr⟩ : ∃ r, decide ((L[k]'(by omega)).p = x.p) = r := ⟨_, rfl⟩
              rw [hr] at he
              have HN : Hid ((B || r) = true ↔ (mayB x = false ∨ ∃ j, ∃ (hj : j < L.length), j < k + 1 ∧ L[j].p = x.p)) := by
                show (B || r) = true ↔ _
                rw [Bool.or_eq_true, HB.out, ← hr]
                constructor
                · rintro ((h | ⟨j, hj, h, e⟩) | h)
                  · exact .inl h
                  · exact .inr ⟨j, hj, by omega, e⟩
                  · exact .inr ⟨k, by omega, by omega, by simpa using h⟩
                · rintro (h | ⟨j, hj, h, e⟩)
                  · exact .inl (.inl h)
                  · by_cases ejk : j = k
                    · subst ejk; exact .inr (by simpa using e)
                    · exact .inl (.inr ⟨j, hj, by omega, e⟩)
              clear hr hy hx e1 e2
              cases B with
              | true =>
                go_wp2_with fail
                go_region
                go_wp2_with fail
                go_roundw
                case rel => exact ⟨k + 1, true || r, by simp, by go_num, by omega, HN.out, HK3.out.drew⟩
                case measure => simp [intOf]; omega
              | false =>
                go_wp2_with fail
                go_region
                go_wp2_with fail
                go_roundw
                case rel => exact ⟨k + 1, false || r, by simp, by go_num, by omega, HN.out, HK3.out.drew⟩
                case measure => simp [intOf]; omega
            · have hki' : ¬ (k : Int) < i := by omega
              go_wp2_with fail
              go_roundw
              case rel =>
                have h5 := HB.out
                rw [show k = i by omega] at h5
                refine ⟨i + 1, B, rfl, by go_num, by omega, fun hb h => ?_, fun hb q hq hqi => ?_, HK3.out⟩
                · have h6 := h.2.2 i hlt
                  rw [← HX.out] at h6
                  rcases h5.1 hb with h7 | ⟨j, hj, hji, e⟩
                  · rw [h6.1] at h7; cases h7
                  · exact h6.2 j hji e
                · by_cases e : q = i
                  · subst e
                    have h7 : ¬ (mayB x = false ∨ ∃ j, ∃ (hj : j < L.length), j < q ∧ L[j].p = x.p) := fun h => by rw [h5.2 h] at hb; cases hb
                    rw [← HX.out]
                    refine ⟨?_, fun j hj e => h7 (.inr ⟨j, by omega, hj, e⟩)⟩
                    cases h8 : mayB x with
                    | true => rfl
                    | false => exact absurd (.inl h8) h7
                  · exact HO.out q hq (by omega)
              case measure => simp [intOf]; omega
      · have hlt' : ¬ (i : Int) < L.length := by omega
        have HE : Hid (R = 0) := by
          show R = 0
          rw [HR.out]
          exact errC_ok ⟨by omega, by omega, fun q hq => HO.out q hq (by omega)⟩
        go_wp2_with fail
        go_ret
        exact ⟨by rw [HE.out]; rfl, HK.out⟩

end Go.Proofs.YtfoghemiaidnhaaGreat
