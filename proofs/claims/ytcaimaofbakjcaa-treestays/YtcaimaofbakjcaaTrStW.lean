/-
  TreeStays: the walk.
-/
import Derived.Test.YtcaimaofbakjcaaTrStR
namespace Go.Proofs.Ytcaimaofbakjcaa
open Go.RowKit

/-- What both rows hold behind k puts. -/
structure Rows2 (B : Nat) (w : World) (L : List Lf) (k : Nat) (P : List (Option Addr)) (V : List (Option Addr × Nat × Nat)) : Prop where
  lp : P.length = k + 1
  lv : V.length = k
  tr : ∀ i (h : i < P.length), TAt w.heap.size w P[i] (tk L i)
  rw : ∀ i (h : i < V.length), OwnL 0 w (slV V[i]) (tk L i).list

theorem Rows2.turn {B k : Nat} {w w' : World} {L : List Lf} {P : List (Option Addr)} {V : List (Option Addr × Nat × Nat)} (h : Rows2 B w L k P V) {e : TypeId} (t : Turn e w w') (h1 : 64 ≠ e) (h2 : 50 ≠ e) (h3 : 28 ≠ e) : Rows2 B w' L k P V :=
  ⟨h.lp, h.lv, fun i hi => t.tree h1 h2 (h.tr i hi), fun i hi => t.row (h.rw i hi) h3⟩

theorem Rows2.kept {B k : Nat} {w w' : World} {L : List Lf} {P : List (Option Addr)} {V : List (Option Addr × Nat × Nat)} (h : Rows2 B w L k P V) (t : Kept [] w w') : Rows2 B w' L k P V :=
  h.turn (e := 23) (turn_kept t) (by decide) (by decide) (by decide)

theorem Rows2.snoc {B k : Nat} {w : World} {L : List Lf} {P : List (Option Addr)} {V : List (Option Addr × Nat × Nat)} (h : Rows2 B w L k P V) (hk : k < L.length) {q : Option Addr} {s : Option Addr × Nat × Nat} (hq : TAt w.heap.size w q ((tk L k).put L[k])) (hs : OwnL 0 w (slV s) (tk L k).list) : Rows2 B w L (k + 1) (P ++ [q]) (V ++ [s]) := by
  have lp := h.lp
  have lv := h.lv
  refine ⟨by simp [lp], by simp [lv], fun i hi => ?_, fun i hi => ?_⟩
  · by_cases e : i < P.length
    · rw [List.getElem_append_left e]; exact h.tr i e
    · have e2 : i = k + 1 := by simp at hi; omega
      subst e2
      rw [List.getElem_append_right (by omega), tk_succ hk]
      simpa using hq
  · by_cases e : i < V.length
    · rw [List.getElem_append_left e]; exact h.rw i e
    · have e2 : i = k := by simp at hi; omega
      subst e2
      rw [List.getElem_append_right (by omega)]
      simpa using hs

theorem OwnP.cell {B : Nat} {w : World} {g n c : Nat} {P : List (Option Addr)} (h : OwnP B w (.slice (some ⟨g, 0, none⟩) n c) P) {k : Nat} (hk : k < P.length) : w.cell? ⟨g, k, none⟩ = some (.pointer P[k]) := by
  obtain ⟨g', c', e, _, _, hc⟩ := row_at h (by omega)
  cases e
  rw [hc k hk, List.getElem?_map, List.getElem?_eq_getElem hk]; rfl

theorem row_sl {B e n : Nat} {w : World} {v : Value} {xs : List Value} (h : w.ownsRow B e 1 v n xs) : ∃ a c, v = .slice a n c ∧ n ≤ c ∧ c ≤ maxLen ∧ ∀ i, i < n → ∃ g, a = some ⟨g, 0, none⟩ ∧ w.cell? ⟨g, i, none⟩ = xs[i]? := by
  by_cases hn : 0 < n
  · obtain ⟨g, c, h1, h2, h3, h4⟩ := row_at h hn
    exact ⟨_, c, h1, h2, h3, fun i hi => ⟨g, rfl, h4 i hi⟩⟩
  · obtain rfl : n = 0 := by omega
    obtain ⟨h1, h2⟩ := h
    rcases h2 with ⟨hv, h0⟩ | ⟨g, cap, cur, hv, hg, hh, h3, h4, _⟩
    · exact ⟨none, 0, hv, Nat.le_refl _, by decide, fun i hi => by omega⟩
    · exact ⟨_, cap, hv, h3, h4, fun i hi => by omega⟩

set_option maxHeartbeats 8000000 in
set_option maxRecDepth 100000 in
theorem stays_walk (w : World) (ao : Option Addr) (n c : Nat) (L : List Lf) (ht : SlL w ao n c L) :
    Calls Try.prog 5 #[.slice ao n c] w fun e w' => e = .returned (.bool true) ∧ Kept [] w w' := by
  have hn := ht.1
  subst hn
  have hm := ht.2.2.1
  have hc := ht.2.1
  unfold maxLen at hm
  by_cases hr : L.length ≤ 40 ∧ roomy L = true
  · obtain ⟨h40, hr⟩ := hr
    have i40 : (L.length : Int) ≤ 40 := by omega
    obtain ⟨_, r2⟩ := roomy_iff.1 hr
    have HL : Hid (∀ i (hi : i < L.length), ∃ b o, ao = some ⟨b, o, none⟩ ∧ LfAt w b (o + i * 4) L[i]) := ht.2.2.2
    have HP : Hid (∀ x ∈ L, x.p.length ≤ 300) := r2
    clear r2
    go_enter Try.func5, Try.ntmps5
    go_wp2_with fail
    refine (awake_call _).mono ?_
    rintro e w0 ⟨rfl, hK0⟩
    have cr := room_call w0 ao L.length c L (ht.kept hK0)
    rw [hr] at cr
    clear ht hr
    go_wp2_with fail
    refine cr.mono ?_
    rintro e w9 ⟨rfl, rfl⟩
    clear cr
    go_wp2_with fail
    refine (new_call _).mono ?_
    rintro e w1 ⟨p0, rfl, hA, hK1⟩
    replace hK1 := hK0.trans hK1 (by simp)
    clear hK0
    go_wp2_with fail
    have hB1 := hK1.size
    have hP0 : OwnP w1.heap.size (w1.alloc (.cells #[.pointer p0] 23)) (.slice (some ⟨w1.heap.size, 0, none⟩) 1 1) [p0] :=
      ⟨rfl, .inr ⟨w1.heap.size, 1, #[.pointer p0], rfl, Nat.le_refl _, heap_alloc_new w1 _, Nat.le_refl _, by decide, rfl, rfl⟩⟩
    have hKa := hK1.alloc (.cells #[.pointer p0] 23)
    have hR0 : Rows2 w1.heap.size (w1.alloc (.cells #[.pointer p0] 23)) L 0 [p0] [] :=
      ⟨rfl, rfl, fun i hi => by
        have : i = 0 := by simp at hi; omega
        subst this
        exact (hA.kept ((Kept.refl _ _).alloc _)).full, fun i hi => by simp at hi⟩
    clear hA
    go_loopw [3, 4, 5] (fun av sv iv wr => ∃ (k : Nat) (P : List (Option Addr)) (V : List (Option Addr × Nat × Nat)), iv = .int .i64 (k : Int) ∧ k ≤ L.length ∧ OwnP w1.heap.size wr av P ∧ OwnW w1.heap.size wr sv V ∧ Rows2 w1.heap.size wr L k P V ∧ w1.heap.size ≤ wr.heap.size ∧ Kept [] w wr) (fun _ _ iv _ => L.length - (intOf iv).toNat)
    case atStart => exact ⟨0, [p0], [], rfl, Nat.zero_le _, hP0, World.ownsRow_nil _ _ _ _, hR0, by simp, hKa⟩
    case round =>
      obtain ⟨k, P, V, rfl, hk, hP, hV, hR, hBr, hK⟩ := hrel
      clear hP0 hKa hR0 hK1
      have lp := hR.lp
      have lv := hR.lv
      obtain ⟨ga, ca, rfl, ea, ea2, hca⟩ := row_at hP (by omega)
      unfold maxLen at ea2
      have hkP : k < P.length := by omega
      have hPl : P.length ≤ 41 := by omega
      have hVl : V.length ≤ 40 := by omega
      have HLP : Hid (P.length = k + 1 ∧ V.length = k) := ⟨lp, lv⟩
      clear lp lv
      by_cases hlt : k < L.length
      · have hak := OwnP.cell hP hkP
        obtain ⟨b, o, rfl, hx⟩ := HL.out k hlt
        have hxp := HP.out L[k] (List.getElem_mem hlt)
        have gk := tk_good L k
        have sk := tk_size L k
        have cA := tAll_call _ wr P[k] (tk L k) (hR.tr k hkP) (by omega) gk.1
        have hk1 : (k : Int) < L.length := by omega
        have hk2 : (k : Int) < P.length := by omega
        go_wp2_with fail
        refine cA.mono ?_
        rintro e w2 ⟨l2, rfl, hO2, hK2⟩
        obtain ⟨a2, d2, rfl, hL2⟩ := hO2.sl
        have hV2 : OwnW w1.heap.size w2 u4 V := Kept.ownsRow (S := []) hK2 hV (by simp)
        have hV2' := fun ob => World.ownsRow.alloc hV2 ob
        have hB2 : w1.heap.size ≤ w2.heap.size := Nat.le_trans hBr hK2.size
        clear cA hL2
        go_wp2_with (at_builtin; refine wp_appW rfl _ _ rfl w1.heap.size _ V rfl (hV2' _) w2.heap.size (a2, (tk L k).list.length, d2) rfl (by rw [World.cell?_alloc_mark]; rfl) (by omega) (by simp; omega) ?_)
        intro v3 w3 hV3 hg3
        have hKal := (Kept.refl [] w2).alloc (.cells #[.slice a2 (tk L k).list.length d2] 29)
        have hT3 : Turn 29 wr w3 := (turn_kept (hK2.trans hKal (by simp))).trans (turn_row (hV2' _) hg3)
        have hR3 := hR.turn hT3 (by decide) (by decide) (by decide)
        have hP3 : OwnP w1.heap.size w3 _ P := hT3.row hP (by decide)
        have hO3 : OwnL 0 w3 (.slice a2 (tk L k).list.length d2) (tk L k).list := ((turn_kept hKal).trans (turn_row (hV2' _) hg3)).row (hO2.mono (Nat.zero_le _)) (by decide)
        have hK3 : Kept [] w w3 := ((hK.trans hK2 (by simp)).alloc (.cells #[.slice a2 (tk L k).list.length d2] 29)).grown hg3 (fun g hg => .inr (Nat.le_trans hB1 (World.ownsRow.lt hV2 g hg).1))
        have hB3 : w1.heap.size ≤ w3.heap.size := Nat.le_trans hBr hT3.size
        clear hg3 hV2 hV2' hO2 hK2 hKal hT3 hak hP hV hB2 hca
        have hak3 := OwnP.cell hP3 hkP
        obtain ⟨c0, c1, c2, c3⟩ := hx.kept hK3
        have cP := fun w' (hk : Kept [] w3 w') => tPut_call L[k] (by omega) _ w' P[k] (tk L k) ((hR3.tr k hkP).kept hk) (by omega)
        have HS : Hid (∀ wx q, TAt wx.heap.size wx q ((tk L k).put L[k]) → Rows2 w1.heap.size wx L k P V → OwnL 0 wx (.slice a2 (tk L k).list.length d2) (tk L k).list → Rows2 w1.heap.size wx L (k + 1) (P ++ [q]) (V ++ [(a2, (tk L k).list.length, d2)])) := fun wx q h1 h2 h3 => h2.snoc hlt h1 h3
        unfold lfV at cP
        generalize L[k] = x at *
        generalize P[k] = pk at *
        clear hx
        go_wp2_with fail
        go_region_law (first
          | (refine step_appP (by rfl) _ _ (by rfl) w1.heap.size _ P (by rfl) (hP4 _) _ q (by rfl) (by rw [World.cell?_alloc_mark]; rfl) (by omega) (by simp; omega) ?_; intro v5 w5 hP5 hg5)
          | (go_simp; go_at_call 11; refine (cP _ ?_).mono ?_; exact (Kept.refl _ _).drew; rintro e w4 ⟨q, rfl, hT4, hK4⟩; replace hK4 : Kept [] w3 w4 := (Kept.refl [] w3).drew.trans hK4 (by simp); have hP4 := fun ob => World.ownsRow.alloc (Kept.ownsRow (S := []) hK4 hP3 (by simp)) ob; have hB4 := hK4.size))
        all_goals
          go_wp2_with fail
          go_roundw
        all_goals try (simp [intOf]; omega)
        all_goals
          have hT5 : Turn 23 w4 w5 := (turn_kept ((Kept.refl [] w4).alloc (.cells #[.pointer q] 23))).trans (turn_row (hP4 _) hg5)
          have hT6 : Turn 23 w3 w5 := (turn_kept hK4).trans hT5
          have hg6 := (World.ownsRow.lt hP3 ga rfl).1
          have hK5 : Kept [] w w5 := ((hK3.trans hK4 (by simp)).alloc (.cells #[.pointer q] 23)).grown hg5 (fun g hg => .inr (by simp [Value.ownBlock] at hg; omega))
          exact ⟨k + 1, P ++ [q], V ++ [(a2, (tk L k).list.length, d2)], by simp, by omega, hP5, hT6.row hV3 (by decide), HS.out w5 q (hT5.tree (by decide) (by decide) hT4) (hR3.turn hT6 (by decide) (by decide) (by decide)) (hT6.row hO3 (by decide)), Nat.le_trans hB3 hT6.size, hK5⟩
      · obtain ⟨av, cv, rfl, ev, ev2, hcv⟩ := row_sl hV
        unfold maxLen at ev2
        obtain ⟨w2, rfl⟩ : ∃ w2, w2 = wr := ⟨_, rfl⟩
        have HV : Hid (∀ i (hi : i < V.length), ∃ g, av = some ⟨g, 0, none⟩ ∧ ∃ a d, w2.cell? ⟨g, i, none⟩ = some (.slice a (tk L i).list.length d) ∧ SlL w2 a (tk L i).list.length d (tk L i).list) := fun i hi => by
          obtain ⟨g, h1, h2⟩ := hcv i hi
          obtain ⟨a, d, e1, e2⟩ := (hR.rw i hi).sl
          refine ⟨g, h1, a, d, ?_, e2⟩
          rw [h2, List.getElem?_map, List.getElem?_eq_getElem hi, ← e1]; rfl
        have HT : Hid (∀ i, i < V.length → ∃ p, w2.cell? ⟨ga, i, none⟩ = some (.pointer p) ∧ TAt w2.heap.size w2 p (tk L i)) := fun i hi => by
          have h' : i < P.length := by have := HLP.out; omega
          exact ⟨P[i], OwnP.cell hP h', hR.tr i h'⟩
        have hVP : (V.length : Int) ≤ P.length := by have := HLP.out; omega
        clear hV hP hR HLP hcv hca hkP
        go_wp2_with fail
        go_loopw [6] (fun iv wq => ∃ m : Nat, iv = .int .i64 (m : Int) ∧ m ≤ V.length ∧ Kept [] w2 wq) (fun iv _ => V.length - (intOf iv).toNat)
        case atStart => exact ⟨0, rfl, Nat.zero_le _, Kept.refl _ _⟩
        case round =>
          obtain ⟨m, rfl, hmV, hKq⟩ := hrel
          by_cases hlt2 : m < V.length
          · obtain ⟨gv, rfl, am, dm, cv0, hSm⟩ := HV.out m hlt2
            obtain ⟨pm, cp0, hTm⟩ := HT.out m hlt2
            have gm := tk_good L m
            have sm := tk_size L m
            have hm1 : (m : Int) < P.length := by omega
            have hm2 : (m : Int) < V.length := by omega
            have cN := fun w' (hk : Kept [] w2 w') => tLen_call _ w' pm (tk L m) (hTm.kept hk)
            have cA := fun w' (hk : Kept [] w2 w') => tAll_call _ w' pm (tk L m) (hTm.kept hk) (by omega) gm.1
            have cP := fun w' (hk : Kept [] w2 w') => put_lit [122, 122] 0 m false w' _ pm (tk L m) (hTm.kept hk) (by omega) (by decide)
            have hps := (put_size ⟨[122, 122], 0, m, false⟩ (tk L m)).1
            have hps2 := (put_size ⟨[122, 122], 0, m, false⟩ (tk L m)).2
            rw [← tr_size (tk L m)] at hps hps2 sm
            simp only [← tr_size (tk L m)] at cN
            generalize (tk L m).put ⟨[122, 122], 0, m, false⟩ = t2 at *
            clear gm hTm
            generalize (tk L m).list = M at *
            have hM1 := hSm.2.1
            have hM2 := hSm.2.2.1
            unfold maxLen at hM2
            have hps3 : (M.length : Int) ≤ t2.size := by omega
            have q0 := hKq.cell cp0 (by simp)
            have q1 := hKq.cell cv0 (by simp)
            go_wp2_with fail
            go_region_held3 (fun w' => w'.cell? ⟨ga, m, none⟩ = some (.pointer pm) ∧ w'.cell? ⟨gv, m, none⟩ = some (.slice am M.length dm))
              (first | go_keep | exact ⟨hKe.cell cp0 (by simp), hKe.cell cv0 (by simp)⟩)
              (first
                | (go_at_call 15; refine (cA _ ?_).mono ?_; exact hKq.drew; rintro e x1 ⟨l1, rfl, hO1, hKe⟩; replace hKe : Kept [] w2 x1 := hKq.drew.trans hKe (by simp); obtain ⟨a1, d1, rfl, hL1⟩ := hO1.sl; have hL2 := hSm.kept hKe; clear hO1)
                | (go_at_call 20; have h20 := same_call x1 _ _ _ _ _ _ _ _ hL1 hL2; rw [decide_eq_true rfl] at h20; refine h20.mono ?_; clear hL1 hL2 h20; rintro e x2 ⟨rfl, n2, rfl⟩; replace hKe := kept_drewN hKe n2)
                | (go_at_call 13; refine (cN _ ?_).mono ?_; exact hKe; rintro e x3 ⟨rfl, rfl⟩))
            go_wp2_with fail
            refine (cP _ hKe).mono ?_
            rintro e x4 ⟨q, rfl, hT4, hK4⟩
            have hKf := hKe.trans hK4 (by simp)
            have cM := fun w' (hk : Kept [] x4 w') => tLen_call _ w' q t2 (hT4.kept hk)
            have r0 := hKf.cell cp0 (by simp)
            have r1 := hKf.cell cv0 (by simp)
            clear q0 q1 hKq hT4 hK4 hKe cP
            generalize (t2.size : Int) = n2 at *
            have hdn : decide (n2 < (M.length : Int)) = false := decide_eq_false (by omega)
            go_wp2_with fail
            go_region_held3 (fun w' => w'.cell? ⟨ga, m, none⟩ = some (.pointer pm) ∧ w'.cell? ⟨gv, m, none⟩ = some (.slice am M.length dm))
              (first | go_keep | exact ⟨hKe.cell cp0 (by simp), hKe.cell cv0 (by simp)⟩)
              (first
                | (go_at_call_of 13 (Value.pointer q); refine (cM _ ?_).mono ?_; exact (Kept.refl _ _).drew; rintro e x5 ⟨rfl, rfl⟩; have hKe := hKf.drew; clear cM)
                | (go_at_call_of 13 (Value.pointer pm); refine (cN _ ?_).mono ?_; exact hKe; rintro e x6 ⟨rfl, rfl⟩)
                | (go_at_call 15; refine (cA _ ?_).mono ?_; exact hKe; rintro e x7 ⟨l1, rfl, hO1, hK7⟩; replace hKe : Kept [] w2 x7 := hKe.trans hK7 (by simp); obtain ⟨a1, d1, rfl, hL1⟩ := hO1.sl; have hL2 := hSm.kept hKe; clear hO1 hK7)
                | (go_at_call 20; have h20 := same_call x7 _ _ _ _ _ _ _ _ hL1 hL2; rw [decide_eq_true rfl] at h20; refine h20.mono ?_; clear hL1 hL2 h20; rintro e x8 ⟨rfl, n8, rfl⟩; replace hKe := kept_drewN hKe n8))
            go_wp2_with fail
            go_roundw
            case rel => exact ⟨m + 1, by simp, by omega, hKe⟩
            case measure => simp [intOf]; omega
          · go_wp2_with fail
            go_ret
            exact ⟨rfl, hK.trans hKq (by simp)⟩
  · rcases (show 40 < (L.length : Int) ∨ ((L.length : Int) ≤ 40 ∧ roomy L = false) from by
      by_cases h : L.length ≤ 40
      · right
        refine ⟨by omega, ?_⟩
        cases h2 : roomy L with
        | false => rfl
        | true => exact absurd ⟨h, h2⟩ hr
      · left; omega) with h1 | ⟨h1, h2⟩
    · clear hr
      go_enter Try.func5, Try.ntmps5
      go_wp2_with fail
      refine (awake_call _).mono ?_
      rintro e w0 ⟨rfl, hK0⟩
      go_wp2_with fail
      go_ret
      exact ⟨rfl, hK0⟩
    · go_enter Try.func5, Try.ntmps5
      go_wp2_with fail
      refine (awake_call _).mono ?_
      rintro e w0 ⟨rfl, hK0⟩
      have cr := room_call w0 ao L.length c L (ht.kept hK0)
      rw [h2] at cr
      clear h2 hr
      go_wp2_with fail
      refine cr.mono ?_
      rintro e w' ⟨rfl, rfl⟩
      go_wp2_with fail
      go_ret
      exact ⟨rfl, hK0⟩

end Go.Proofs.Ytcaimaofbakjcaa
