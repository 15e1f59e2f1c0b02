/-
  The document's own tree: Range, Under.
-/
import Derived.Test.YtcaimaofbakjcaaTrRef3
import Derived.Test.YtcaimaofbakjcaaPaRef3
namespace Go.Proofs.Ytcaimaofbakjcaa
open Go.RowKit

theorem filter_hit {P : Lf → Bool} {L : List Lf} {k : Nat} (h : k < L.length) (hP : P L[k] = true) : (L.take (k + 1)).filter P = (L.take k).filter P ++ [L[k]] := by
  rw [List.take_succ_eq_append_getElem h, List.filter_append]; simp [hP]

theorem filter_miss {P : Lf → Bool} {L : List Lf} {k : Nat} (h : k < L.length) (hP : P L[k] = false) : (L.take (k + 1)).filter P = (L.take k).filter P := by
  rw [List.take_succ_eq_append_getElem h, List.filter_append]; simp [hP]

theorem filter_small {P : Lf → Bool} {L : List Lf} {k : Nat} : ((L.take k).filter P).length ≤ L.length :=
  Nat.le_trans (List.length_filter_le _ _) (by simp; omega)

set_option maxHeartbeats 4000000 in
set_option maxRecDepth 100000 in
theorem rrange_call (w : World) (ao : Option Addr) (n c : Nat) (L : List Lf) (ht : SlL w ao n c L) (hlen : L.length ≤ 1000000) (hp : ∀ x ∈ L, x.p.length ≤ 100000000000) (f to : List UInt8) (hf : f.length ≤ 100000000000) (hto : to.length ≤ 100000000000) :
    Calls Try.prog 22 #[.agg #[.slice ao n c], .string (str f), .string (str to)] w fun e w' => ∃ v, e = .returned v ∧ OwnL w.heap.size w' v (rangeL f to L) ∧ Kept [] w w' := by
  have hn := ht.1
  subst hn
  have hm := ht.2.2.1
  have hc := ht.2.1
  unfold maxLen at hm
  obtain ⟨P, hP⟩ : ∃ P : Lf → Bool, P = fun x => decide (0 ≤ cmpT x.p f) && ahead to x.p := ⟨_, rfl⟩
  have hR : rangeL f to L = L.filter P := by rw [hP]; rfl
  rw [hR]
  have HP : Hid (P = fun x => decide (0 ≤ cmpT x.p f) && ahead to x.p) := hP
  have hK0 := (Kept.refl [] w).alloc (.cells #[.slice ao L.length c] 35)
  have bT := cell_of_one (heap_alloc_new w (.cells #[.slice ao L.length c] 35))
  have HL : Hid (∀ i (hi : i < L.length), ∃ b o, ao = some ⟨b, o, none⟩ ∧ LfAt w b (o + i * 4) L[i]) := ht.2.2.2
  have HX : Hid (∀ x ∈ L, x.p.length ≤ 100000000000) := hp
  clear ht hp hP hR
  go_enter Try.func22, Try.ntmps22
  go_wp2_with fail
  go_loopw [7, 8] (fun ov iv wr => ∃ k : Nat, iv = .int .i64 (k : Int) ∧ k ≤ L.length ∧ OwnL (w.heap.size + 1) wr ov ((L.take k).filter P) ∧ Kept [] (w.alloc (.cells #[.slice ao L.length c] 35)) wr) (fun _ iv _ => L.length - (intOf iv).toNat)
  case atStart => exact ⟨0, rfl, Nat.zero_le _, OwnL.nil _ _, Kept.refl _ _⟩
  case round =>
    obtain ⟨k, rfl, hk, hO, hK⟩ := hrel
    have HO : Hid (OwnL (w.heap.size + 1) wr u7 ((L.take k).filter P)) := hO
    have bT' := hK.cell bT (by simp)
    have hKw := hK0.trans hK (by simp)
    clear bT hO
    by_cases hlt : k < L.length
    · obtain ⟨b, o, rfl, hx⟩ := HL.out k hlt
      obtain ⟨c0, c1, c2, c3⟩ := hx.kept hKw
      have hxp := HX.out L[k] (List.getElem_mem hlt)
      have cc := fun w' => rcompare_call L[k].p f w' hxp hf
      have ct := fun w' => rcompare_call L[k].p to w' hxp hto
      obtain ⟨x, hxe⟩ : ∃ x, L[k] = x := ⟨_, rfl⟩
      rw [hxe] at c0 c1 c2 c3 cc ct
      clear hx hxp
      by_cases hge : 0 ≤ cmpT x.p f
      · by_cases h0 : to = []
        · subst h0
          have e0 := str_void
          have HP2 : Hid (P x = true) := by show P x = true; rw [HP.out]; simp [ahead, hge]
          have HE : Hid ((L.take (k + 1)).filter P = (L.take k).filter P ++ [x]) := by rw [← hxe]; exact filter_hit hlt (by rw [hxe]; exact HP2.out)
          have hO' := fun w1 (hK1 : Kept [] wr w1) (o : Obj) => World.ownsRow.alloc (Kept.ownsRow (S := []) hK1 HO.out (by simp)) o
          generalize cmpT x.p f = cv at *

          go_wp2_with fail
          refine (cc _).mono ?_
          rintro e w1 ⟨rfl, hK1⟩

          have m0 := hK1.cell c0 (by simp)
          have m1 := hK1.cell c1 (by simp)
          have m2 := hK1.cell c2 (by simp)
          have m3 := hK1.cell c3 (by simp)
          have mT := hK1.cell bT' (by simp)
          clear c0 c1 c2 c3 bT'

          go_wp2_with (at_builtin; refine wp_appL rfl _ _ rfl (w.heap.size + 1) _ ((L.take k).filter P) rfl (hO' _ hK1 _) ⟨_, 0, none⟩ 1 1 [x] rfl rfl (by simpa using leaf_new _ x _) (by have := filter_small (P := P) (L := L) (k := k); simp; omega) (by have h1 := hK.size; have h2 := (hK1).size; simp at h1 ⊢; omega) ?_)
          intro v2 w2 hO2 hg2
          have hKw2 : Kept [] (w.alloc (.cells #[.slice (some ⟨b, o, none⟩) L.length c] 35)) w2 := grown_keptL ((hK.trans hK1 (by simp)).alloc _) (hO' _ hK1 _) (by simp) hg2
          rw [← HE.out] at hO2
          clear hg2
          go_wp2_with fail
          go_roundw
          case rel => exact ⟨k + 1, by simp, by omega, hO2, hKw2⟩
          case measure => simp [intOf]; omega
        · have e0 := str_full h0
          have hem : to.isEmpty = false := by cases to <;> simp_all
          by_cases h2 : cmpT x.p to < 0
          · have HP2 : Hid (P x = true) := by show P x = true; rw [HP.out]; simp [ahead, hge, h2]
            have HE : Hid ((L.take (k + 1)).filter P = (L.take k).filter P ++ [x]) := by rw [← hxe]; exact filter_hit hlt (by rw [hxe]; exact HP2.out)
            have hO' := fun w1 (hK1 : Kept [] wr w1) (o : Obj) => World.ownsRow.alloc (Kept.ownsRow (S := []) hK1 HO.out (by simp)) o
            clear hem
            generalize cmpT x.p f = cv at *
            generalize cmpT x.p to = cu at *

            go_wp2_with fail
            refine (cc _).mono ?_
            rintro e w1 ⟨rfl, hK1⟩

            have n0 := hK1.cell c0 (by simp)
            have nT := hK1.cell bT' (by simp)

            go_wp2_with fail
            refine (ct _).mono ?_
            rintro e w3 ⟨rfl, hK3⟩
            replace hK1 := hK1.trans hK3 (by simp)

            have m0 := hK1.cell c0 (by simp)
            have m1 := hK1.cell c1 (by simp)
            have m2 := hK1.cell c2 (by simp)
            have m3 := hK1.cell c3 (by simp)
            have mT := hK1.cell bT' (by simp)
            clear c0 c1 c2 c3 bT'

            go_wp2_with (at_builtin; refine wp_appL rfl _ _ rfl (w.heap.size + 1) _ ((L.take k).filter P) rfl (hO' _ hK1 _) ⟨_, 0, none⟩ 1 1 [x] rfl rfl (by simpa using leaf_new _ x _) (by have := filter_small (P := P) (L := L) (k := k); simp; omega) (by have h1 := hK.size; have h2 := (hK1).size; simp at h1 ⊢; omega) ?_)
            intro v2 w2 hO2 hg2
            have hKw2 : Kept [] (w.alloc (.cells #[.slice (some ⟨b, o, none⟩) L.length c] 35)) w2 := grown_keptL ((hK.trans hK1 (by simp)).alloc _) (hO' _ hK1 _) (by simp) hg2
            rw [← HE.out] at hO2
            clear hg2
            go_wp2_with fail
            go_roundw
            case rel => exact ⟨k + 1, by simp, by omega, hO2, hKw2⟩
            case measure => simp [intOf]; omega
          · have HP2 : Hid (P x = false) := by show P x = false; rw [HP.out]; simp [ahead, hge, hem]; omega
            have HE : Hid ((L.take (k + 1)).filter P = (L.take k).filter P) := filter_miss hlt (by rw [hxe]; exact HP2.out)
            clear hem
            generalize cmpT x.p f = cv at *
            generalize cmpT x.p to = cu at *

            go_wp2_with fail
            refine (cc _).mono ?_
            rintro e w1 ⟨rfl, hK1⟩

            have n0 := hK1.cell c0 (by simp)
            have nT := hK1.cell bT' (by simp)

            go_wp2_with fail
            refine (ct _).mono ?_
            rintro e w3 ⟨rfl, hK3⟩
            replace hK1 := hK1.trans hK3 (by simp)

            go_wp2_with fail
            go_roundw
            case rel => exact ⟨k + 1, by simp, by omega, by rw [HE.out]; exact Kept.ownsRow (S := []) hK1 HO.out (by simp), hK.trans hK1 (by simp)⟩
            case measure => simp [intOf]; omega
      · have HP2 : Hid (P x = false) := by show P x = false; rw [HP.out]; simp [hge]
        have HE : Hid ((L.take (k + 1)).filter P = (L.take k).filter P) := filter_miss hlt (by rw [hxe]; exact HP2.out)
        generalize cmpT x.p f = cv at *

        go_wp2_with fail
        refine (cc _).mono ?_
        rintro e w1 ⟨rfl, hK1⟩

        go_wp2_with fail
        go_roundw
        case rel => exact ⟨k + 1, by simp, by omega, by rw [HE.out]; exact Kept.ownsRow (S := []) hK1 HO.out (by simp), hK.trans hK1 (by simp)⟩
        case measure => simp [intOf]; omega
    · have HE : Hid (L.filter P = (L.take k).filter P) := by show L.filter P = (L.take k).filter P; rw [show L.take k = L from List.take_of_length_le (by omega)]
      have hO2 : OwnL (w.heap.size + 1) wr u7 (L.filter P) := by rw [HE.out]; exact HO.out
      go_wp2_with fail
      go_ret
      exact ⟨_, rfl, hO2.mono (by omega), hKw⟩

set_option maxHeartbeats 4000000 in
set_option maxRecDepth 100000 in
theorem runder_call (w : World) (ao : Option Addr) (n c : Nat) (L : List Lf) (ht : SlL w ao n c L) (hlen : L.length ≤ 1000000) (d : List UInt8) (hd : d.length ≤ 140737488355328) :
    Calls Try.prog 23 #[.agg #[.slice ao n c], .string (str d)] w fun e w' => ∃ v, e = .returned v ∧ OwnL w.heap.size w' v (underL d L) ∧ Kept [] w w' := by
  have hn := ht.1
  subst hn
  have hm := ht.2.2.1
  have hc := ht.2.1
  unfold maxLen at hm
  obtain ⟨P, hP⟩ : ∃ P : Lf → Bool, P = fun x => withinB d x.p := ⟨_, rfl⟩
  have hR : underL d L = L.filter P := by rw [hP]; rfl
  rw [hR]
  have HP : Hid (P = fun x => withinB d x.p) := hP
  have hK0 := (Kept.refl [] w).alloc (.cells #[.slice ao L.length c] 35)
  have bT := cell_of_one (heap_alloc_new w (.cells #[.slice ao L.length c] 35))
  have HL : Hid (∀ i (hi : i < L.length), ∃ b o, ao = some ⟨b, o, none⟩ ∧ LfAt w b (o + i * 4) L[i]) := ht.2.2.2
  clear ht hP hR
  go_enter Try.func23, Try.ntmps23
  go_wp2_with fail
  go_loopw [5, 6] (fun ov iv wr => ∃ k : Nat, iv = .int .i64 (k : Int) ∧ k ≤ L.length ∧ OwnL (w.heap.size + 1) wr ov ((L.take k).filter P) ∧ Kept [] (w.alloc (.cells #[.slice ao L.length c] 35)) wr) (fun _ iv _ => L.length - (intOf iv).toNat)
  case atStart => exact ⟨0, rfl, Nat.zero_le _, OwnL.nil _ _, Kept.refl _ _⟩
  case round =>
    obtain ⟨k, rfl, hk, hO, hK⟩ := hrel
    have HO : Hid (OwnL (w.heap.size + 1) wr u5 ((L.take k).filter P)) := hO
    have bT' := hK.cell bT (by simp)
    have hKw := hK0.trans hK (by simp)
    clear bT hO
    by_cases hlt : k < L.length
    · obtain ⟨b, o, rfl, hx⟩ := HL.out k hlt
      obtain ⟨c0, c1, c2, c3⟩ := hx.kept hKw
      have cc := fun w' => rwithin_call d L[k].p w' hd
      obtain ⟨x, hxe⟩ : ∃ x, L[k] = x := ⟨_, rfl⟩
      rw [hxe] at c0 c1 c2 c3 cc
      clear hx
      cases hw : withinB d x.p with
      | true =>
        rw [hw] at cc
        have HP2 : Hid (P x = true) := by show P x = true; rw [HP.out]; exact hw
        have HE : Hid ((L.take (k + 1)).filter P = (L.take k).filter P ++ [x]) := by rw [← hxe]; exact filter_hit hlt (by rw [hxe]; exact HP2.out)
        have hO' := fun (o : Obj) => World.ownsRow.alloc HO.out o
        go_wp2_with fail
        refine (cc _).mono ?_
        rintro e w1 ⟨rfl, rfl⟩
        go_wp2_with (at_builtin; refine wp_appL rfl _ _ rfl (w.heap.size + 1) _ ((L.take k).filter P) rfl (hO' _) ⟨_, 0, none⟩ 1 1 [x] rfl rfl (by simpa using leaf_new _ x _) (by have := filter_small (P := P) (L := L) (k := k); simp; omega) (by have h1 := hK.size; simp at h1 ⊢; omega) ?_)
        intro v2 w2 hO2 hg2
        have hKw2 : Kept [] (w.alloc (.cells #[.slice (some ⟨b, o, none⟩) L.length c] 35)) w2 := grown_keptL (hK.alloc _) (hO' _) (by simp) hg2
        rw [← HE.out] at hO2
        clear hg2
        go_wp2_with fail
        go_roundw
        case rel => exact ⟨k + 1, by simp, by omega, hO2, hKw2⟩
        case measure => simp [intOf]; omega
      | false =>
        rw [hw] at cc
        have HP2 : Hid (P x = false) := by show P x = false; rw [HP.out]; exact hw
        have HE : Hid ((L.take (k + 1)).filter P = (L.take k).filter P) := filter_miss hlt (by rw [hxe]; exact HP2.out)
        go_wp2_with fail
        refine (cc _).mono ?_
        rintro e w1 ⟨rfl, rfl⟩
        go_wp2_with fail
        go_roundw
        case rel => exact ⟨k + 1, by simp, by omega, by rw [HE.out]; exact HO.out, hK⟩
        case measure => simp [intOf]; omega
    · have HE : Hid (L.filter P = (L.take k).filter P) := by show L.filter P = (L.take k).filter P; rw [show L.take k = L from List.take_of_length_le (by omega)]
      have hO2 : OwnL (w.heap.size + 1) wr u5 (L.filter P) := by rw [HE.out]; exact HO.out
      go_wp2_with fail
      go_ret
      exact ⟨_, rfl, hO2.mono (by omega), hKw⟩

end Go.Proofs.Ytcaimaofbakjcaa
