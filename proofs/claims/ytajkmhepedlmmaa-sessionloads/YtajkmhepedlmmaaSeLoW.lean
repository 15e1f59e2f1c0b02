/-
  SessionLoads: the walk.
-/
import Derived.Test.YtajkmhepedlmmaaSeLd
import Derived.Test.YtajkmhepedlmmaaMtLd
import Derived.Test.YtajkmhepedlmmaaMtSame
import Derived.Test.YtajkmhepedlmmaaSeRoom
import Derived.BigQuiet
namespace Go.Proofs.Ytajkmhepedlmmaa
open Go.RowKit

def LoI (w1 : World) (b sz n : Nat) (iv : Value) (wr : World) : Prop := ∃ (i : Nat) (L : List Se), iv = .int .i64 (i : Int) ∧ i ≤ n ∧ Hid (LiveT w1 wr b sz L) ∧ Hid (LdOk L)

/-- The document's sessions, as they are read. -/
theorem MtA.model {w : World} {bm sz : Nat} {v : Value} {Y : List (Se × Value)} {M : List Se} (h2 : MtA w bm sz v Y M) : ∃ ao c, w.cell? ⟨bm, 1, none⟩ = some (.slice ao M.length c) ∧ SlS w ao M.length c Y ∧ Y.map Prod.fst = M := by
  obtain ⟨ao, c, hv, hs⟩ := h2.sl
  subst hv
  have e2 := h2.len
  rw [e2] at hs
  exact ⟨ao, c, by rw [← e2]; exact h2.cells.2, hs, h2.ses⟩

set_option linter.unusedSimpArgs false in
set_option maxHeartbeats 32000000 in
set_option maxRecDepth 100000 in
theorem sloads_walk (W : World) (size : Int) (ao : Option Addr) (n c : Nat) (D : List (Dd × Value)) (hD : SlDd W ao n c D) (bo : Option Addr) (m d : Nat) (X : List (Se × Value)) (hX : SlS W bo m d X) (hXo : ∀ y ∈ X, okS y.1) :
    Calls Try.prog 5 #[.int .i64 size, .slice ao n c, .slice bo m d] W fun e w' => e = .returned (.bool true) ∧ Kept [] W w' := by
  have cW := awakeT_call W
  have hc := hD.2.1
  have hm := hD.2.2.1
  have hd := hX.2.1
  have hmX := hX.2.2.1
  unfold maxLen at hm hmX
  have HD := hide hD
  have HL := hide hD.1
  have HX := hide hX
  have HXo : Hid (∀ x ∈ X.map Prod.fst, okS x) := fun x hx => by obtain ⟨y, hy, rfl⟩ := List.mem_map.1 hx; exact hXo y hy
  clear hD hX hXo
  go_enter Try.func5, Try.ntmps5
  go_wp2_with fail
  refine cW.mono ?_
  rintro _ w0 ⟨rfl, hK0⟩
  have cR := roomD_call w0 ao n c D (HD.out.kept hK0)
  clear cW
  go_wp2_with fail
  refine cR.mono ?_
  rintro _ w1 ⟨r, rfl, hr, hK1⟩
  have HK1 := hide (hK0.trans hK1 (by simp))
  clear cR hK0 hK1
  cases r with
  | false =>
    go_wp2_with fail
    go_ret
    exact ⟨rfl, HK1.out⟩
  | true =>
    have hn := hr rfl
    clear hr
    by_cases hm40 : (40 : Int) < m
    · go_wp2_with fail
      go_ret
      exact ⟨rfl, HK1.out⟩
    · replace HD := hide (HD.out.kept HK1.out)
      replace HX := hide (HX.out.kept HK1.out)
      by_cases hs : 1 ≤ size ∧ size ≤ 16
      · obtain ⟨sz, rfl⟩ : ∃ sz : Nat, size = sz := ⟨size.toNat, by omega⟩
        have cN := liveT_new w1 sz (by omega) (by omega)
        go_wp2_with fail
        refine cN.mono ?_
        rintro _ w2 ⟨b, rfl, hT2⟩
        have HT2 := hide hT2
        have cL := load_call w2 sz bo m d X _ (HX.out.kept hT2.keeps) rfl HXo.out
        unfold LoadP at cL
        clear cN hT2
        go_wp2_with fail
        refine cL.mono ?_
        rintro _ w3 (⟨sz', b3, hsz, hl3, hok3, rfl, hT3⟩ | ⟨hs3, _⟩ | ⟨_, hbad, rfl, hK3⟩)
        case inr.inl => exact absurd hs hs3
        · have hsz' : sz = sz' := by omega
          subst hsz'
          clear hsz
          have HT3 := hide hT3
          have HLk3 : Hid (∀ h : ¬ (((X.map Prod.fst).length : Int) ≤ (sz : Int) ∧ LdOk (X.map Prod.fst)), False) := fun h => h ⟨by omega, hok3⟩
          have cM := mloadT_call w3 sz bo m d X _ ((HX.out.kept HT2.out.keeps).kept hT3.keeps) rfl HXo.out
          unfold LoadM at cM
          clear cL hT3 hl3 hok3
          go_wp2_with fail
          refine cM.mono ?_
          rintro _ w4 (⟨sz', b4, v4, Y4, hsz, _, _, _, rfl, hM4, hK4⟩ | ⟨hs4, _⟩ | ⟨_, hbad, _⟩)
          case inr.inl => exact absurd hs hs4
          case inr.inr => exact absurd hbad HLk3.out
          clear hsz cM HLk3
          have HK4 := hide hK4
          have HTx := hide (HT3.out.kept hK4)
          have HTt := hide ((HT2.out.kept HT3.out.keeps).kept hK4)
          obtain ⟨aoM, cM, t1, hSM, hYM⟩ := hM4.model
          have HSM := hide hSM
          have HYM := hide hYM
          obtain ⟨mM, hmMe⟩ : ∃ mM, mM = (X.map Prod.fst).length := ⟨_, rfl⟩
          rw [← hmMe] at t1 HSM
          clear hSM hYM hmMe hM4 hK4
          have cAl := liveT_all (HTx.out.kept (Kept.refl [] w4).drew)
          unfold CopS at cAl
          go_upto_region 8 with fail
          refine wp_region_held_drew (S := fun w' => w'.cell? ⟨b4, 1, none⟩ = some (.slice aoM mM cM)) (by kernel_rfl) t1 (fun hHeld => ?_)
          refine wpAnyH_take (i := 0) (v := ?_) rfl (by kernel_rfl) (by kernel_rfl) (by kernel_rfl) (fun _ _ _ h => h) (Or.inl ⟨by rfl, ?_⟩) hHeld ?_
          rotate_left
          · intro w9 hSw; (try dsimp only at hSw); go_simp; (try with_reducible rfl)
          try simp only [List.getElem_toArray, List.getElem_cons_succ, List.getElem_cons_zero, Act.put, List.setIfInBounds_toArray, List.set_cons_zero, List.set_cons_succ]
          refine wpAnyH_take (i := 1) (v := ?_) rfl (by kernel_rfl) (by kernel_rfl) (by kernel_rfl) (fun _ _ _ h => h) (Or.inl ⟨by rfl, ?_⟩) hHeld ?_
          rotate_left
          · intro w9 hSw; (try dsimp only at hSw); go_simp; (try with_reducible rfl)
          try simp only [List.getElem_toArray, List.getElem_cons_succ, List.getElem_cons_zero, Act.put, List.setIfInBounds_toArray, List.set_cons_zero, List.set_cons_succ]
          refine wpAnyH_take (i := 2) (v := ?_) rfl (by kernel_rfl) (by kernel_rfl) (by kernel_rfl) (fun _ _ _ h => h) (Or.inl ⟨by rfl, ?_⟩) hHeld ?_
          rotate_left
          · intro w9 hSw; (try dsimp only at hSw); go_simp; (try with_reducible rfl)
          try simp only [List.getElem_toArray, List.getElem_cons_succ, List.getElem_cons_zero, Act.put, List.setIfInBounds_toArray, List.set_cons_zero, List.set_cons_succ]
          refine wpAnyH_take (i := 3) (v := ?_) rfl (by kernel_rfl) (by kernel_rfl) (by kernel_rfl) (fun _ _ _ h => h) (Or.inl ⟨by rfl, ?_⟩) hHeld ?_
          rotate_left
          · intro w9 hSw; (try dsimp only at hSw); go_simp; (try with_reducible rfl)
          try simp only [List.getElem_toArray, List.getElem_cons_succ, List.getElem_cons_zero, Act.put, List.setIfInBounds_toArray, List.set_cons_zero, List.set_cons_succ]
          refine wpAnyH_take (i := 4) (v := ?_) rfl (by kernel_rfl) (by kernel_rfl) (by kernel_rfl) (fun _ _ _ h => h) (Or.inl ⟨by rfl, ?_⟩) hHeld ?_
          rotate_left
          · intro w9 hSw; (try dsimp only at hSw); go_simp; (try with_reducible rfl)
          try simp only [List.getElem_toArray, List.getElem_cons_succ, List.getElem_cons_zero, Act.put, List.setIfInBounds_toArray, List.set_cons_zero, List.set_cons_succ]
          refine wpAnyH_take (i := 5) (v := ?_) rfl (by kernel_rfl) (by kernel_rfl) (by kernel_rfl) (fun _ _ _ h => h) (Or.inl ⟨by rfl, ?_⟩) hHeld ?_
          rotate_left
          · intro w9 hSw; (try dsimp only at hSw); go_simp; (try with_reducible rfl)
          try simp only [List.getElem_toArray, List.getElem_cons_succ, List.getElem_cons_zero, Act.put, List.setIfInBounds_toArray, List.set_cons_zero, List.set_cons_succ]
          refine wpAnyH_take (i := 6) (v := ?_) rfl (by kernel_rfl) (by kernel_rfl) (by kernel_rfl) (fun _ _ _ h => h) (Or.inl ⟨by rfl, ?_⟩) hHeld ?_
          rotate_left
          · intro w9 hSw; (try dsimp only at hSw); go_simp; (try with_reducible rfl)
          try simp only [List.getElem_toArray, List.getElem_cons_succ, List.getElem_cons_zero, Act.put, List.setIfInBounds_toArray, List.set_cons_zero, List.set_cons_succ]
          refine wpAnyH_take (i := 7) (v := ?_) rfl (by kernel_rfl) (by kernel_rfl) (by kernel_rfl) (fun _ _ _ h => h) (Or.inl ⟨by rfl, ?_⟩) hHeld ?_
          rotate_left
          · intro w9 hSw; (try dsimp only at hSw); go_simp; (try with_reducible rfl)
          try simp only [List.getElem_toArray, List.getElem_cons_succ, List.getElem_cons_zero, Act.put, List.setIfInBounds_toArray, List.set_cons_zero, List.set_cons_succ]
          refine wpAnyH_take (i := 8) (v := ?_) rfl (by kernel_rfl) (by kernel_rfl) (by kernel_rfl) (fun _ _ _ h => h) (Or.inl ⟨by rfl, ?_⟩) hHeld ?_
          rotate_left
          · intro w9 hSw; (try dsimp only at hSw); go_simp; (try with_reducible rfl)
          try simp only [List.getElem_toArray, List.getElem_cons_succ, List.getElem_cons_zero, Act.put, List.setIfInBounds_toArray, List.set_cons_zero, List.set_cons_succ]
          refine wpAnyH_take (i := 9) (v := ?_) rfl (by kernel_rfl) (by kernel_rfl) (by kernel_rfl) (fun _ _ _ h => h) (Or.inl ⟨by rfl, ?_⟩) hHeld ?_
          rotate_left
          · intro w9 hSw; (try dsimp only at hSw); go_simp; (try with_reducible rfl)
          try simp only [List.getElem_toArray, List.getElem_cons_succ, List.getElem_cons_zero, Act.put, List.setIfInBounds_toArray, List.set_cons_zero, List.set_cons_succ]
          refine wpAnyH_take (i := 10) (v := ?_) rfl (by kernel_rfl) (by kernel_rfl) (by kernel_rfl) (fun _ _ _ h => h) (Or.inl ⟨by rfl, ?_⟩) hHeld ?_
          rotate_left
          · intro w9 hSw; (try dsimp only at hSw); go_simp; (try with_reducible rfl)
          try simp only [List.getElem_toArray, List.getElem_cons_succ, List.getElem_cons_zero, Act.put, List.setIfInBounds_toArray, List.set_cons_zero, List.set_cons_succ]
          refine wpAnyH_take (i := 11) (v := ?_) rfl (by kernel_rfl) (by kernel_rfl) (by kernel_rfl) (fun _ _ _ h => h) (Or.inl ⟨by rfl, ?_⟩) hHeld ?_
          rotate_left
          · intro w9 hSw; (try dsimp only at hSw); go_simp; (try with_reducible rfl)
          try simp only [List.getElem_toArray, List.getElem_cons_succ, List.getElem_cons_zero, Act.put, List.setIfInBounds_toArray, List.set_cons_zero, List.set_cons_succ]
          refine wpAnyH_take (i := 12) (v := ?_) rfl (by kernel_rfl) (by kernel_rfl) (by kernel_rfl) (fun _ _ _ h => h) (Or.inl ⟨by rfl, ?_⟩) hHeld ?_
          rotate_left
          · intro w9 hSw; (try dsimp only at hSw); go_simp; (try with_reducible rfl)
          try simp only [List.getElem_toArray, List.getElem_cons_succ, List.getElem_cons_zero, Act.put, List.setIfInBounds_toArray, List.set_cons_zero, List.set_cons_succ]
          refine wpAnyH_take (i := 13) (v := ?_) rfl (by kernel_rfl) (by kernel_rfl) (by kernel_rfl) (fun _ _ _ h => h) (Or.inl ⟨by rfl, ?_⟩) hHeld ?_
          rotate_left
          · intro w9 hSw; (try dsimp only at hSw); go_simp; (try with_reducible rfl)
          try simp only [List.getElem_toArray, List.getElem_cons_succ, List.getElem_cons_zero, Act.put, List.setIfInBounds_toArray, List.set_cons_zero, List.set_cons_succ]
          refine wpAnyH_take (i := 14) (v := ?_) rfl (by kernel_rfl) (by kernel_rfl) (by kernel_rfl) (fun _ _ _ h => h) (Or.inl ⟨by rfl, ?_⟩) hHeld ?_
          rotate_left
          · intro w9 hSw; (try dsimp only at hSw); go_simp; (try with_reducible rfl)
          try simp only [List.getElem_toArray, List.getElem_cons_succ, List.getElem_cons_zero, Act.put, List.setIfInBounds_toArray, List.set_cons_zero, List.set_cons_succ]
          refine wpAnyH_take (i := 16) (v := ?_) rfl (by kernel_rfl) (by kernel_rfl) (by kernel_rfl) (fun _ _ _ h => h) (Or.inl ⟨by rfl, ?_⟩) hHeld ?_
          rotate_left
          · intro w9 hSw; (try dsimp only at hSw); go_simp; (try with_reducible rfl)
          try simp only [List.getElem_toArray, List.getElem_cons_succ, List.getElem_cons_zero, Act.put, List.setIfInBounds_toArray, List.set_cons_zero, List.set_cons_succ]
          refine wpAnyH_take (i := 17) (v := ?_) rfl (by kernel_rfl) (by kernel_rfl) (by kernel_rfl) (fun _ _ _ h => h) (Or.inl ⟨by rfl, ?_⟩) hHeld ?_
          rotate_left
          · intro w9 hSw; (try dsimp only at hSw); go_simp; (try with_reducible rfl)
          try simp only [List.getElem_toArray, List.getElem_cons_succ, List.getElem_cons_zero, Act.put, List.setIfInBounds_toArray, List.set_cons_zero, List.set_cons_succ]
          refine wpAnyH_take (i := 18) (v := ?_) rfl (by kernel_rfl) (by kernel_rfl) (by kernel_rfl) (fun _ _ _ h => h) (Or.inl ⟨by rfl, ?_⟩) hHeld ?_
          rotate_left
          · intro w9 hSw; (try dsimp only at hSw); go_simp; (try with_reducible rfl)
          try simp only [List.getElem_toArray, List.getElem_cons_succ, List.getElem_cons_zero, Act.put, List.setIfInBounds_toArray, List.set_cons_zero, List.set_cons_succ]
          refine wpAnyH_take (i := 19) (v := ?_) rfl (by kernel_rfl) (by kernel_rfl) (by kernel_rfl) (fun _ _ _ h => h) (Or.inl ⟨by rfl, ?_⟩) hHeld ?_
          rotate_left
          · intro w9 hSw; (try dsimp only at hSw); go_simp; (try with_reducible rfl)
          try simp only [List.getElem_toArray, List.getElem_cons_succ, List.getElem_cons_zero, Act.put, List.setIfInBounds_toArray, List.set_cons_zero, List.set_cons_succ]
          refine wpAnyH_ready (rs := [15]) (by kernel_rfl) (by simp) (AllReadyH.cons rfl (fun K0 hK0 => ?_) AllReadyH.nil)
          go_simp
          refine (cAl).mono ?_
          rintro _ w8 ⟨v8, X8, rfl, hR8, hO8, hM8, hK8⟩
          obtain ⟨ao8, c8, hv8, hs8⟩ := hR8.t.sl (fun y hy => (hO8 y hy).ko)
          subst hv8
          have HS8 := hide hs8
          have HM8 := hide hM8
          have HK8 := hide ((Kept.refl [] w4).drew.trans hK8 (by simp))
          obtain ⟨m8, hm8⟩ : ∃ m8, m8 = X8.length := ⟨_, rfl⟩
          rw [← hm8] at HS8 ⊢
          clear hR8 hO8 hM8 hK8 hs8 hm8 cAl
          go_wp2_with fail
          refine hK0.out _ _ (HK8.out.cell t1 (by simp)) (fun hHeld => ?_)
          clear hK0 K0
          try simp only [List.getElem_toArray, List.getElem_cons_succ, List.getElem_cons_zero, Act.put, List.setIfInBounds_toArray, List.set_cons_zero, List.set_cons_succ]
          refine wpAnyH_ready (rs := [20]) (by kernel_rfl) (by simp) (AllReadyH.cons rfl (fun K0 hK0 => ?_) AllReadyH.nil)
          go_simp
          refine (sameSs_call w8 ao8 aoM m8 mM c8 cM X8 Y4 HS8.out (HSM.out.kept HK8.out) (by rw [HM8.out, HYM.out])).mono ?_
          rintro _ w9b ⟨rfl, hK9⟩
          have HK9 := hide (HK8.out.trans hK9 (by simp))
          clear hK9
          go_wp2_with fail
          refine hK0.out _ _ (HK9.out.cell t1 (by simp)) (fun hHeld => ?_)
          clear hK0 K0
          try simp only [List.getElem_toArray, List.getElem_cons_succ, List.getElem_cons_zero, Act.put, List.setIfInBounds_toArray, List.set_cons_zero, List.set_cons_succ]
          refine wpAnyH_take (i := 21) (v := ?_) rfl (by kernel_rfl) (by kernel_rfl) (by kernel_rfl) (fun _ _ _ h => h) (Or.inl ⟨by rfl, ?_⟩) hHeld ?_
          rotate_left
          · intro w9 hSw; (try dsimp only at hSw); go_simp; (try with_reducible rfl)
          try simp only [List.getElem_toArray, List.getElem_cons_succ, List.getElem_cons_zero, Act.put, List.setIfInBounds_toArray, List.set_cons_zero, List.set_cons_succ]
          refine wpAnyH_take (i := 22) (v := ?_) rfl (by kernel_rfl) (by kernel_rfl) (by kernel_rfl) (fun _ _ _ h => h) (Or.inl ⟨by rfl, ?_⟩) hHeld ?_
          rotate_left
          · intro w9 hSw; (try dsimp only at hSw); go_simp; (try with_reducible rfl)
          try simp only [List.getElem_toArray, List.getElem_cons_succ, List.getElem_cons_zero, Act.put, List.setIfInBounds_toArray, List.set_cons_zero, List.set_cons_succ]
          refine wpAnyH_take (i := 23) (v := ?_) rfl (by kernel_rfl) (by kernel_rfl) (by kernel_rfl) (fun _ _ _ h => h) (Or.inl ⟨by rfl, ?_⟩) hHeld ?_
          rotate_left
          · intro w9 hSw; (try dsimp only at hSw); go_simp; (try with_reducible rfl)
          try simp only [List.getElem_toArray, List.getElem_cons_succ, List.getElem_cons_zero, Act.put, List.setIfInBounds_toArray, List.set_cons_zero, List.set_cons_succ]
          refine wpAnyH_done (by kernel_rfl) ?_ _
          have HTs := hide (HTt.out.kept HK9.out)
          clear hHeld t1
          go_wp2_with fail
          go_loopw [13] (fun iv wr => LoI w1 b sz n iv wr) (fun iv _ => n - (intOf iv).toNat)
          case atStart => exact ⟨0, _, rfl, Nat.zero_le _, HTs, ldOk_nil⟩
          case round =>
            obtain ⟨i, L, rfl, hi, HLv0, HLd0⟩ := hrel
            by_cases hlt : i < n
            · have hlt' : (i : Int) < n := by omega
              have hic : i ≤ c := by omega
              have hiD : i < D.length := by rw [HL.out]; exact hlt
              obtain ⟨g, o, he, hx⟩ := HD.out.2.2.2.1 i hiD
              subst he
              obtain ⟨hko, hod⟩ := HD.out.2.2.2.2 _ (List.getElem_mem hiD)
              obtain ⟨mo, mm, mc, hm2⟩ := hko.one
              obtain ⟨z0, z1, z2, z3, z4, z5, z6, z7, z8, z9, z10⟩ := hx
              rw [hm2] at z9 hko
              generalize D[i].1 = y at *
              have HKo := hide hko
              have HOd := hide hod
              have HKc := hide HLv0.out.keeps
              have d0 := HKc.out.cell z0 (by simp)
              clear hko hod hm2 hiD
              by_cases ho : y.o ≤ 1
              · have h01 : y.o ≤ 1 := ho
                have cC := liveT_open (HLv0.out.kept (Kept.refl [] wr).drew) y.n HOd.out.1 y.i
                go_upto_region 17 with fail
                refine wp_region_held_drew (S := fun w' => w'.cell? ⟨g, o + i * 11 + 3, none⟩ = some (.string (str y.n)) ∧ w'.cell? ⟨g, o + i * 11 + 1, none⟩ = some (.int .i64 y.i)) (by kernel_rfl) ⟨HKc.out.cell z3 (by simp), HKc.out.cell z1 (by simp)⟩ (fun hHeld => ?_)
                refine wpAnyH_take (i := 0) (v := ?_) rfl (by kernel_rfl) (by kernel_rfl) (by kernel_rfl) (fun _ _ _ h => h) (Or.inl ⟨by rfl, ?_⟩) hHeld ?_
                rotate_left
                · intro w9 hSw; (try dsimp only at hSw); go_simp; (try with_reducible rfl)
                try simp only [List.getElem_toArray, List.getElem_cons_succ, List.getElem_cons_zero, Act.put, List.setIfInBounds_toArray, List.set_cons_zero, List.set_cons_succ]
                refine wpAnyH_take (i := 1) (v := ?_) rfl (by kernel_rfl) (by kernel_rfl) (by kernel_rfl) (fun _ _ _ h => h) (Or.inl ⟨by rfl, ?_⟩) hHeld ?_
                rotate_left
                · intro w9 hSw; (try dsimp only at hSw); go_simp; (try with_reducible rfl)
                try simp only [List.getElem_toArray, List.getElem_cons_succ, List.getElem_cons_zero, Act.put, List.setIfInBounds_toArray, List.set_cons_zero, List.set_cons_succ]
                refine wpAnyH_take (i := 2) (v := ?_) rfl (by kernel_rfl) (by kernel_rfl) (by kernel_rfl) (fun _ _ _ h => h) (Or.inl ⟨by rfl, ?_⟩) hHeld ?_
                rotate_left
                · intro w9 hSw; (try dsimp only at hSw); go_simp; (try with_reducible rfl)
                try simp only [List.getElem_toArray, List.getElem_cons_succ, List.getElem_cons_zero, Act.put, List.setIfInBounds_toArray, List.set_cons_zero, List.set_cons_succ]
                refine wpAnyH_take (i := 3) (v := ?_) rfl (by kernel_rfl) (by kernel_rfl) (by kernel_rfl) (fun _ _ _ h => h) (Or.inl ⟨by rfl, ?_⟩) hHeld ?_
                rotate_left
                · intro w9 hSw; (try dsimp only at hSw); go_simp; (try with_reducible rfl)
                try simp only [List.getElem_toArray, List.getElem_cons_succ, List.getElem_cons_zero, Act.put, List.setIfInBounds_toArray, List.set_cons_zero, List.set_cons_succ]
                refine wpAnyH_take (i := 4) (v := ?_) rfl (by kernel_rfl) (by kernel_rfl) (by kernel_rfl) (fun _ _ _ h => h) (Or.inl ⟨by rfl, ?_⟩) hHeld ?_
                rotate_left
                · intro w9 hSw; (try dsimp only at hSw); go_simp; (try with_reducible rfl)
                try simp only [List.getElem_toArray, List.getElem_cons_succ, List.getElem_cons_zero, Act.put, List.setIfInBounds_toArray, List.set_cons_zero, List.set_cons_succ]
                refine wpAnyH_take (i := 5) (v := ?_) rfl (by kernel_rfl) (by kernel_rfl) (by kernel_rfl) (fun _ _ _ h => h) (Or.inl ⟨by rfl, ?_⟩) hHeld ?_
                rotate_left
                · intro w9 hSw; (try dsimp only at hSw); go_simp; (try with_reducible rfl)
                try simp only [List.getElem_toArray, List.getElem_cons_succ, List.getElem_cons_zero, Act.put, List.setIfInBounds_toArray, List.set_cons_zero, List.set_cons_succ]
                refine wpAnyH_take (i := 6) (v := ?_) rfl (by kernel_rfl) (by kernel_rfl) (by kernel_rfl) (fun _ _ _ h => h) (Or.inl ⟨by rfl, ?_⟩) hHeld ?_
                rotate_left
                · intro w9 hSw; (try dsimp only at hSw); go_simp; (try with_reducible rfl)
                try simp only [List.getElem_toArray, List.getElem_cons_succ, List.getElem_cons_zero, Act.put, List.setIfInBounds_toArray, List.set_cons_zero, List.set_cons_succ]
                refine wpAnyH_take (i := 7) (v := ?_) rfl (by kernel_rfl) (by kernel_rfl) (by kernel_rfl) (fun _ _ _ h => h) (Or.inl ⟨by rfl, ?_⟩) hHeld ?_
                rotate_left
                · intro w9 hSw; (try dsimp only at hSw); go_simp; (try with_reducible rfl)
                try simp only [List.getElem_toArray, List.getElem_cons_succ, List.getElem_cons_zero, Act.put, List.setIfInBounds_toArray, List.set_cons_zero, List.set_cons_succ]
                refine wpAnyH_take (i := 8) (v := ?_) rfl (by kernel_rfl) (by kernel_rfl) (by kernel_rfl) (fun _ _ _ h => h) (Or.inl ⟨by rfl, ?_⟩) hHeld ?_
                rotate_left
                · intro w9 hSw; (try dsimp only at hSw); go_simp; (try with_reducible rfl)
                try simp only [List.getElem_toArray, List.getElem_cons_succ, List.getElem_cons_zero, Act.put, List.setIfInBounds_toArray, List.set_cons_zero, List.set_cons_succ]
                refine wpAnyH_take (i := 9) (v := ?_) rfl (by kernel_rfl) (by kernel_rfl) (by kernel_rfl) (fun _ _ _ h => h) (Or.inl ⟨by rfl, ?_⟩) hHeld ?_
                rotate_left
                · intro w9 hSw; (try dsimp only at hSw); go_simp; (try with_reducible rfl)
                try simp only [List.getElem_toArray, List.getElem_cons_succ, List.getElem_cons_zero, Act.put, List.setIfInBounds_toArray, List.set_cons_zero, List.set_cons_succ]
                refine wpAnyH_take (i := 10) (v := ?_) rfl (by kernel_rfl) (by kernel_rfl) (by kernel_rfl) (fun _ _ _ h => h) (Or.inl ⟨by rfl, ?_⟩) hHeld ?_
                rotate_left
                · intro w9 hSw; (try dsimp only at hSw); go_simp; (try with_reducible rfl)
                try simp only [List.getElem_toArray, List.getElem_cons_succ, List.getElem_cons_zero, Act.put, List.setIfInBounds_toArray, List.set_cons_zero, List.set_cons_succ]
                refine wpAnyH_ready (rs := [11]) (by kernel_rfl) (by simp) (AllReadyH.cons rfl (fun K0 hK0 => ?_) AllReadyH.nil)
                go_simp
                refine (cC).mono ?_
                rintro _ w5 ⟨rfl, hP5, _⟩
                replace HKc := hide hP5.keeps
                have HLv5 := hide hP5
                have HLd5 := hide (ldOk_open HLd0.out sz y.n y.i)
                clear hP5
                go_wp2_with fail
                refine hK0.out _ _ ⟨HKc.out.cell z3 (by simp), HKc.out.cell z1 (by simp)⟩ (fun hHeld => ?_)
                clear hK0 K0
                try simp only [List.getElem_toArray, List.getElem_cons_succ, List.getElem_cons_zero, Act.put, List.setIfInBounds_toArray, List.set_cons_zero, List.set_cons_succ]
                refine wpAnyH_done (by kernel_rfl) ?_ _
                clear hHeld cC HKc d0 z0 z1 z2 z3 z4 z5 z6 z7 z8 z9 z10
                go_wp2_with fail
                go_roundw
                case rel => exact ⟨i + 1, _, by go_num, by omega, HLv5, HLd5⟩
                case measure => simp [intOf]; omega
              · by_cases ho4 : y.o ≤ 4
                · have h01 : ¬ y.o ≤ 1 := ho
                  have h04 : y.o ≤ 4 := ho4
                  have cC := liveT_ask (HLv0.out.kept (Kept.refl [] wr).drew) y.i y.q
                  go_upto_region 19 with fail
                  refine wp_region_held_drew (S := fun w' => w'.cell? ⟨g, o + i * 11 + 1, none⟩ = some (.int .i64 y.i) ∧ w'.cell? ⟨g, o + i * 11 + 2, none⟩ = some (.int .i64 y.q)) (by kernel_rfl) ⟨HKc.out.cell z1 (by simp), HKc.out.cell z2 (by simp)⟩ (fun hHeld => ?_)
                  refine wpAnyH_take (i := 0) (v := ?_) rfl (by kernel_rfl) (by kernel_rfl) (by kernel_rfl) (fun _ _ _ h => h) (Or.inl ⟨by rfl, ?_⟩) hHeld ?_
                  rotate_left
                  · intro w9 hSw; (try dsimp only at hSw); go_simp; (try with_reducible rfl)
                  try simp only [List.getElem_toArray, List.getElem_cons_succ, List.getElem_cons_zero, Act.put, List.setIfInBounds_toArray, List.set_cons_zero, List.set_cons_succ]
                  refine wpAnyH_take (i := 1) (v := ?_) rfl (by kernel_rfl) (by kernel_rfl) (by kernel_rfl) (fun _ _ _ h => h) (Or.inl ⟨by rfl, ?_⟩) hHeld ?_
                  rotate_left
                  · intro w9 hSw; (try dsimp only at hSw); go_simp; (try with_reducible rfl)
                  try simp only [List.getElem_toArray, List.getElem_cons_succ, List.getElem_cons_zero, Act.put, List.setIfInBounds_toArray, List.set_cons_zero, List.set_cons_succ]
                  refine wpAnyH_take (i := 2) (v := ?_) rfl (by kernel_rfl) (by kernel_rfl) (by kernel_rfl) (fun _ _ _ h => h) (Or.inl ⟨by rfl, ?_⟩) hHeld ?_
                  rotate_left
                  · intro w9 hSw; (try dsimp only at hSw); go_simp; (try with_reducible rfl)
                  try simp only [List.getElem_toArray, List.getElem_cons_succ, List.getElem_cons_zero, Act.put, List.setIfInBounds_toArray, List.set_cons_zero, List.set_cons_succ]
                  refine wpAnyH_take (i := 3) (v := ?_) rfl (by kernel_rfl) (by kernel_rfl) (by kernel_rfl) (fun _ _ _ h => h) (Or.inl ⟨by rfl, ?_⟩) hHeld ?_
                  rotate_left
                  · intro w9 hSw; (try dsimp only at hSw); go_simp; (try with_reducible rfl)
                  try simp only [List.getElem_toArray, List.getElem_cons_succ, List.getElem_cons_zero, Act.put, List.setIfInBounds_toArray, List.set_cons_zero, List.set_cons_succ]
                  refine wpAnyH_take (i := 4) (v := ?_) rfl (by kernel_rfl) (by kernel_rfl) (by kernel_rfl) (fun _ _ _ h => h) (Or.inl ⟨by rfl, ?_⟩) hHeld ?_
                  rotate_left
                  · intro w9 hSw; (try dsimp only at hSw); go_simp; (try with_reducible rfl)
                  try simp only [List.getElem_toArray, List.getElem_cons_succ, List.getElem_cons_zero, Act.put, List.setIfInBounds_toArray, List.set_cons_zero, List.set_cons_succ]
                  refine wpAnyH_take (i := 5) (v := ?_) rfl (by kernel_rfl) (by kernel_rfl) (by kernel_rfl) (fun _ _ _ h => h) (Or.inl ⟨by rfl, ?_⟩) hHeld ?_
                  rotate_left
                  · intro w9 hSw; (try dsimp only at hSw); go_simp; (try with_reducible rfl)
                  try simp only [List.getElem_toArray, List.getElem_cons_succ, List.getElem_cons_zero, Act.put, List.setIfInBounds_toArray, List.set_cons_zero, List.set_cons_succ]
                  refine wpAnyH_take (i := 6) (v := ?_) rfl (by kernel_rfl) (by kernel_rfl) (by kernel_rfl) (fun _ _ _ h => h) (Or.inl ⟨by rfl, ?_⟩) hHeld ?_
                  rotate_left
                  · intro w9 hSw; (try dsimp only at hSw); go_simp; (try with_reducible rfl)
                  try simp only [List.getElem_toArray, List.getElem_cons_succ, List.getElem_cons_zero, Act.put, List.setIfInBounds_toArray, List.set_cons_zero, List.set_cons_succ]
                  refine wpAnyH_take (i := 7) (v := ?_) rfl (by kernel_rfl) (by kernel_rfl) (by kernel_rfl) (fun _ _ _ h => h) (Or.inl ⟨by rfl, ?_⟩) hHeld ?_
                  rotate_left
                  · intro w9 hSw; (try dsimp only at hSw); go_simp; (try with_reducible rfl)
                  try simp only [List.getElem_toArray, List.getElem_cons_succ, List.getElem_cons_zero, Act.put, List.setIfInBounds_toArray, List.set_cons_zero, List.set_cons_succ]
                  refine wpAnyH_take (i := 8) (v := ?_) rfl (by kernel_rfl) (by kernel_rfl) (by kernel_rfl) (fun _ _ _ h => h) (Or.inl ⟨by rfl, ?_⟩) hHeld ?_
                  rotate_left
                  · intro w9 hSw; (try dsimp only at hSw); go_simp; (try with_reducible rfl)
                  try simp only [List.getElem_toArray, List.getElem_cons_succ, List.getElem_cons_zero, Act.put, List.setIfInBounds_toArray, List.set_cons_zero, List.set_cons_succ]
                  refine wpAnyH_take (i := 9) (v := ?_) rfl (by kernel_rfl) (by kernel_rfl) (by kernel_rfl) (fun _ _ _ h => h) (Or.inl ⟨by rfl, ?_⟩) hHeld ?_
                  rotate_left
                  · intro w9 hSw; (try dsimp only at hSw); go_simp; (try with_reducible rfl)
                  try simp only [List.getElem_toArray, List.getElem_cons_succ, List.getElem_cons_zero, Act.put, List.setIfInBounds_toArray, List.set_cons_zero, List.set_cons_succ]
                  refine wpAnyH_take (i := 10) (v := ?_) rfl (by kernel_rfl) (by kernel_rfl) (by kernel_rfl) (fun _ _ _ h => h) (Or.inl ⟨by rfl, ?_⟩) hHeld ?_
                  rotate_left
                  · intro w9 hSw; (try dsimp only at hSw); go_simp; (try with_reducible rfl)
                  try simp only [List.getElem_toArray, List.getElem_cons_succ, List.getElem_cons_zero, Act.put, List.setIfInBounds_toArray, List.set_cons_zero, List.set_cons_succ]
                  refine wpAnyH_ready (rs := [11]) (by kernel_rfl) (by simp) (AllReadyH.cons rfl (fun K0 hK0 => ?_) AllReadyH.nil)
                  go_simp
                  refine (cC).mono ?_
                  rintro _ w5 ⟨⟨a5, n5, c5, rfl, _⟩, hP5, _⟩
                  replace HKc := hide hP5.keeps
                  have HLv5 := hide hP5
                  have HLd5 := hide (ldOk_ask HLd0.out y.i)
                  clear hP5
                  go_wp2_with fail
                  refine hK0.out _ _ ⟨HKc.out.cell z1 (by simp), HKc.out.cell z2 (by simp)⟩ (fun hHeld => ?_)
                  clear hK0 K0
                  try simp only [List.getElem_toArray, List.getElem_cons_succ, List.getElem_cons_zero, Act.put, List.setIfInBounds_toArray, List.set_cons_zero, List.set_cons_succ]
                  refine wpAnyH_done (by kernel_rfl) ?_ _
                  clear hHeld cC HKc d0 z0 z1 z2 z3 z4 z5 z6 z7 z8 z9 z10
                  go_wp2_with fail
                  go_roundw
                  case rel => exact ⟨i + 1, _, by go_num, by omega, HLv5, HLd5⟩
                  case measure => simp [intOf]; omega
                · have h01 : ¬ y.o ≤ 1 := ho
                  have h04 : ¬ y.o ≤ 4 := ho4
                  have cC := liveT_done (HLv0.out.kept (Kept.refl [] wr).drew) y.i y.q y.v (.slice mo mm mc) (HKo.out.kept (HKc.out.trans (Kept.refl [] wr).drew (by simp))) HOd.out.2
                  unfold vtV at cC
                  go_upto_region 15 with fail
                  refine wp_region_held_drew (S := fun w' => w'.cell? ⟨g, o + i * 11 + 1, none⟩ = some (.int .i64 y.i) ∧ w'.cell? ⟨g, o + i * 11 + 2, none⟩ = some (.int .i64 y.q) ∧ w'.cell? ⟨g, o + i * 11 + 4, none⟩ = some (.int .i64 y.v.c) ∧ w'.cell? ⟨g, o + i * 11 + 5, none⟩ = some (.int .i64 y.v.s) ∧ w'.cell? ⟨g, o + i * 11 + 6, none⟩ = some (.int .i64 y.v.r) ∧ w'.cell? ⟨g, o + i * 11 + 7, none⟩ = some (.string (str y.v.p)) ∧ w'.cell? ⟨g, o + i * 11 + 8, none⟩ = some (.int .u64 y.v.d) ∧ w'.cell? ⟨g, o + i * 11 + 9, none⟩ = some (.slice mo mm mc) ∧ w'.cell? ⟨g, o + i * 11 + 10, none⟩ = some (.int .i64 y.v.m)) (by kernel_rfl) ⟨HKc.out.cell z1 (by simp), HKc.out.cell z2 (by simp), HKc.out.cell z4 (by simp), HKc.out.cell z5 (by simp), HKc.out.cell z6 (by simp), HKc.out.cell z7 (by simp), HKc.out.cell z8 (by simp), HKc.out.cell z9 (by simp), HKc.out.cell z10 (by simp)⟩ (fun hHeld => ?_)
                  refine wpAnyH_take (i := 0) (v := ?_) rfl (by kernel_rfl) (by kernel_rfl) (by kernel_rfl) (fun _ _ _ h => h) (Or.inl ⟨by rfl, ?_⟩) hHeld ?_
                  rotate_left
                  · intro w9 hSw; (try dsimp only at hSw); go_simp; (try with_reducible rfl)
                  try simp only [List.getElem_toArray, List.getElem_cons_succ, List.getElem_cons_zero, Act.put, List.setIfInBounds_toArray, List.set_cons_zero, List.set_cons_succ]
                  refine wpAnyH_take (i := 1) (v := ?_) rfl (by kernel_rfl) (by kernel_rfl) (by kernel_rfl) (fun _ _ _ h => h) (Or.inl ⟨by rfl, ?_⟩) hHeld ?_
                  rotate_left
                  · intro w9 hSw; (try dsimp only at hSw); go_simp; (try with_reducible rfl)
                  try simp only [List.getElem_toArray, List.getElem_cons_succ, List.getElem_cons_zero, Act.put, List.setIfInBounds_toArray, List.set_cons_zero, List.set_cons_succ]
                  refine wpAnyH_take (i := 2) (v := ?_) rfl (by kernel_rfl) (by kernel_rfl) (by kernel_rfl) (fun _ _ _ h => h) (Or.inl ⟨by rfl, ?_⟩) hHeld ?_
                  rotate_left
                  · intro w9 hSw; (try dsimp only at hSw); go_simp; (try with_reducible rfl)
                  try simp only [List.getElem_toArray, List.getElem_cons_succ, List.getElem_cons_zero, Act.put, List.setIfInBounds_toArray, List.set_cons_zero, List.set_cons_succ]
                  refine wpAnyH_take (i := 3) (v := ?_) rfl (by kernel_rfl) (by kernel_rfl) (by kernel_rfl) (fun _ _ _ h => h) (Or.inl ⟨by rfl, ?_⟩) hHeld ?_
                  rotate_left
                  · intro w9 hSw; (try dsimp only at hSw); go_simp; (try with_reducible rfl)
                  try simp only [List.getElem_toArray, List.getElem_cons_succ, List.getElem_cons_zero, Act.put, List.setIfInBounds_toArray, List.set_cons_zero, List.set_cons_succ]
                  refine wpAnyH_take (i := 4) (v := ?_) rfl (by kernel_rfl) (by kernel_rfl) (by kernel_rfl) (fun _ _ _ h => h) (Or.inl ⟨by rfl, ?_⟩) hHeld ?_
                  rotate_left
                  · intro w9 hSw; (try dsimp only at hSw); go_simp; (try with_reducible rfl)
                  try simp only [List.getElem_toArray, List.getElem_cons_succ, List.getElem_cons_zero, Act.put, List.setIfInBounds_toArray, List.set_cons_zero, List.set_cons_succ]
                  refine wpAnyH_take (i := 5) (v := ?_) rfl (by kernel_rfl) (by kernel_rfl) (by kernel_rfl) (fun _ _ _ h => h) (Or.inl ⟨by rfl, ?_⟩) hHeld ?_
                  rotate_left
                  · intro w9 hSw; (try dsimp only at hSw); go_simp; (try with_reducible rfl)
                  try simp only [List.getElem_toArray, List.getElem_cons_succ, List.getElem_cons_zero, Act.put, List.setIfInBounds_toArray, List.set_cons_zero, List.set_cons_succ]
                  refine wpAnyH_take (i := 6) (v := ?_) rfl (by kernel_rfl) (by kernel_rfl) (by kernel_rfl) (fun _ _ _ h => h) (Or.inl ⟨by rfl, ?_⟩) hHeld ?_
                  rotate_left
                  · intro w9 hSw; (try dsimp only at hSw); go_simp; (try with_reducible rfl)
                  try simp only [List.getElem_toArray, List.getElem_cons_succ, List.getElem_cons_zero, Act.put, List.setIfInBounds_toArray, List.set_cons_zero, List.set_cons_succ]
                  refine wpAnyH_take (i := 7) (v := ?_) rfl (by kernel_rfl) (by kernel_rfl) (by kernel_rfl) (fun _ _ _ h => h) (Or.inl ⟨by rfl, ?_⟩) hHeld ?_
                  rotate_left
                  · intro w9 hSw; (try dsimp only at hSw); go_simp; (try with_reducible rfl)
                  try simp only [List.getElem_toArray, List.getElem_cons_succ, List.getElem_cons_zero, Act.put, List.setIfInBounds_toArray, List.set_cons_zero, List.set_cons_succ]
                  refine wpAnyH_take (i := 8) (v := ?_) rfl (by kernel_rfl) (by kernel_rfl) (by kernel_rfl) (fun _ _ _ h => h) (Or.inl ⟨by rfl, ?_⟩) hHeld ?_
                  rotate_left
                  · intro w9 hSw; (try dsimp only at hSw); go_simp; (try with_reducible rfl)
                  try simp only [List.getElem_toArray, List.getElem_cons_succ, List.getElem_cons_zero, Act.put, List.setIfInBounds_toArray, List.set_cons_zero, List.set_cons_succ]
                  refine wpAnyH_take (i := 9) (v := ?_) rfl (by kernel_rfl) (by kernel_rfl) (by kernel_rfl) (fun _ _ _ h => h) (Or.inl ⟨by rfl, ?_⟩) hHeld ?_
                  rotate_left
                  · intro w9 hSw; (try dsimp only at hSw); go_simp; (try with_reducible rfl)
                  try simp only [List.getElem_toArray, List.getElem_cons_succ, List.getElem_cons_zero, Act.put, List.setIfInBounds_toArray, List.set_cons_zero, List.set_cons_succ]
                  refine wpAnyH_take (i := 10) (v := ?_) rfl (by kernel_rfl) (by kernel_rfl) (by kernel_rfl) (fun _ _ _ h => h) (Or.inl ⟨by rfl, ?_⟩) hHeld ?_
                  rotate_left
                  · intro w9 hSw; (try dsimp only at hSw); go_simp; (try with_reducible rfl)
                  try simp only [List.getElem_toArray, List.getElem_cons_succ, List.getElem_cons_zero, Act.put, List.setIfInBounds_toArray, List.set_cons_zero, List.set_cons_succ]
                  refine wpAnyH_take (i := 11) (v := ?_) rfl (by kernel_rfl) (by kernel_rfl) (by kernel_rfl) (fun _ _ _ h => h) (Or.inl ⟨by rfl, ?_⟩) hHeld ?_
                  rotate_left
                  · intro w9 hSw; (try dsimp only at hSw); go_simp; (try with_reducible rfl)
                  try simp only [List.getElem_toArray, List.getElem_cons_succ, List.getElem_cons_zero, Act.put, List.setIfInBounds_toArray, List.set_cons_zero, List.set_cons_succ]
                  refine wpAnyH_take (i := 12) (v := ?_) rfl (by kernel_rfl) (by kernel_rfl) (by kernel_rfl) (fun _ _ _ h => h) (Or.inl ⟨by rfl, ?_⟩) hHeld ?_
                  rotate_left
                  · intro w9 hSw; (try dsimp only at hSw); go_simp; (try with_reducible rfl)
                  try simp only [List.getElem_toArray, List.getElem_cons_succ, List.getElem_cons_zero, Act.put, List.setIfInBounds_toArray, List.set_cons_zero, List.set_cons_succ]
                  refine wpAnyH_take (i := 13) (v := ?_) rfl (by kernel_rfl) (by kernel_rfl) (by kernel_rfl) (fun _ _ _ h => h) (Or.inl ⟨by rfl, ?_⟩) hHeld ?_
                  rotate_left
                  · intro w9 hSw; (try dsimp only at hSw); go_simp; (try with_reducible rfl)
                  try simp only [List.getElem_toArray, List.getElem_cons_succ, List.getElem_cons_zero, Act.put, List.setIfInBounds_toArray, List.set_cons_zero, List.set_cons_succ]
                  refine wpAnyH_take (i := 14) (v := ?_) rfl (by kernel_rfl) (by kernel_rfl) (by kernel_rfl) (fun _ _ _ h => h) (Or.inl ⟨by rfl, ?_⟩) hHeld ?_
                  rotate_left
                  · intro w9 hSw; (try dsimp only at hSw); go_simp; (try with_reducible rfl)
                  try simp only [List.getElem_toArray, List.getElem_cons_succ, List.getElem_cons_zero, Act.put, List.setIfInBounds_toArray, List.set_cons_zero, List.set_cons_succ]
                  refine wpAnyH_take (i := 15) (v := ?_) rfl (by kernel_rfl) (by kernel_rfl) (by kernel_rfl) (fun _ _ _ h => h) (Or.inl ⟨by rfl, ?_⟩) hHeld ?_
                  rotate_left
                  · intro w9 hSw; (try dsimp only at hSw); go_simp; (try with_reducible rfl)
                  try simp only [List.getElem_toArray, List.getElem_cons_succ, List.getElem_cons_zero, Act.put, List.setIfInBounds_toArray, List.set_cons_zero, List.set_cons_succ]
                  refine wpAnyH_ready (rs := [16]) (by kernel_rfl) (by simp) (AllReadyH.cons rfl (fun K0 hK0 => ?_) AllReadyH.nil)
                  go_simp
                  refine (cC).mono ?_
                  rintro _ w5 ⟨rfl, hP5, _⟩
                  replace HKc := hide hP5.keeps
                  have HLv5 := hide hP5
                  have HLd5 := hide (ldOk_done HLd0.out y.i y.q y.v)
                  clear hP5
                  go_wp2_with fail
                  refine hK0.out _ _ ⟨HKc.out.cell z1 (by simp), HKc.out.cell z2 (by simp), HKc.out.cell z4 (by simp), HKc.out.cell z5 (by simp), HKc.out.cell z6 (by simp), HKc.out.cell z7 (by simp), HKc.out.cell z8 (by simp), HKc.out.cell z9 (by simp), HKc.out.cell z10 (by simp)⟩ (fun hHeld => ?_)
                  clear hK0 K0
                  try simp only [List.getElem_toArray, List.getElem_cons_succ, List.getElem_cons_zero, Act.put, List.setIfInBounds_toArray, List.set_cons_zero, List.set_cons_succ]
                  refine wpAnyH_done (by kernel_rfl) ?_ _
                  clear hHeld cC HKc d0 z0 z1 z2 z3 z4 z5 z6 z7 z8 z9 z10
                  go_wp2_with fail
                  go_roundw
                  case rel => exact ⟨i + 1, _, by go_num, by omega, HLv5, HLd5⟩
                  case measure => simp [intOf]; omega
            · have hlt' : ¬ (i : Int) < n := by omega
              have cA := liveT_all HLv0.out
              unfold CopS at cA
              obtain ⟨wt, hwt⟩ : ∃ wt, wt = wr := ⟨_, rfl⟩
              rw [← hwt] at HLv0 cA ⊢
              clear hwt
              have hps := HLv0.out.pos
              go_wp2_with fail
              refine cA.mono ?_
              rintro _ w5 ⟨v5, X5, rfl, hR5, hO5, hM5, hK5⟩
              obtain ⟨ao5, c5, hv5, hs5⟩ := hR5.t.sl (fun y hy => (hO5 y hy).ko)
              subst hv5
              have HOk : Hid (∀ x ∈ L, okS x) := by obtain ⟨_, _, _, _, _, _, _, _, h⟩ := HLv0.out; exact h
              have cL := load_call w5 sz ao5 X5.length c5 X5 L hs5 hM5 HOk.out
              unfold LoadP at cL
              have HT5 := hide (HLv0.out.kept hK5)
              obtain ⟨m5, hm5⟩ : ∃ m5, m5 = X5.length := ⟨_, rfl⟩
              rw [← hm5] at cL ⊢
              clear hR5 hO5 hM5 hK5 hs5 hm5 cA
              go_wp2_with fail
              refine cL.mono ?_
              rintro _ w6 (⟨sz', b6, hsz, _, _, rfl, hT6⟩ | ⟨hs6, _⟩ | ⟨_, hbad, _⟩)
              case inr.inl => exact absurd hs hs6
              case inr.inr => exact absurd ⟨by omega, HLd0.out⟩ hbad
              have hsz' : sz = sz' := by omega
              subst hsz'
              clear hsz cL
              have HT6 := hide hT6
              have HTt6 := hide (HT5.out.kept hT6.keeps)
              have cA := liveT_all HT6.out
              unfold CopS at cA
              clear hT6
              go_wp2_with fail
              refine cA.mono ?_
              rintro _ w7 ⟨v7, X7, rfl, hR7, hO7, hM7, hK7⟩
              obtain ⟨ao7, c7, hv7, hs7⟩ := hR7.t.sl (fun y hy => (hO7 y hy).ko)
              subst hv7
              have HTt7 := hide (HTt6.out.kept hK7)
              have HS7 := hide hs7
              have HM7 := hide hM7
              obtain ⟨m7, hm7⟩ : ∃ m7, m7 = X7.length := ⟨_, rfl⟩
              rw [← hm7] at HS7 ⊢
              have cB := liveT_all HTt7.out
              unfold CopS at cB
              clear cA hR7 hO7 hM7 hK7 hs7 hm7
              go_wp2_with fail
              refine cB.mono ?_
              rintro _ w8 ⟨v8, X8, rfl, hR8, hO8, hM8, hK8⟩
              obtain ⟨ao8, c8, hv8, hs8⟩ := hR8.t.sl (fun y hy => (hO8 y hy).ko)
              subst hv8
              have HTt8 := hide (HTt7.out.kept hK8)
              have cS := sameSs_call w8 ao7 ao8 m7 X8.length c7 c8 X7 X8 (HS7.out.kept hK8) hs8 (by rw [HM7.out, hM8])
              obtain ⟨m8, hm8⟩ : ∃ m8, m8 = X8.length := ⟨_, rfl⟩
              rw [← hm8] at cS ⊢
              clear cB hR8 hO8 hM8 hK8 hs8 hm8
              go_wp2_with fail
              refine cS.mono ?_
              rintro _ w9 ⟨rfl, hK9⟩
              have HTt9 := hide (HTt8.out.kept hK9)
              have cD := liveT_all HTt9.out
              unfold CopS at cD
              clear cS hK9
              go_wp2_with fail
              refine cD.mono ?_
              rintro _ w10 ⟨v10, X10, rfl, hR10, hO10, hM10, hK10⟩
              obtain ⟨ao10, c10, hv10, hs10⟩ := hR10.t.sl (fun y hy => (hO10 y hy).ko)
              subst hv10
              have hl10 : X10.length = L.length := by rw [← hM10]; simp
              have HTf := hide (HK1.out.trans (HTt9.out.kept hK10).keeps (by simp))
              obtain ⟨m10, hm10⟩ : ∃ m10, m10 = X10.length := ⟨_, rfl⟩
              rw [← hm10] at hl10 ⊢
              have hle : (m10 : Int) ≤ sz := by omega
              clear cD hR10 hO10 hM10 hK10 hs10 hm10 hl10
              go_wp2_with fail
              go_ret
              exact ⟨rfl, HTf.out⟩
        · have HT3 := hide (HT2.out.kept hK3)
          have HBd := hide hbad
          have cM := mloadT_call w3 sz bo m d X _ ((HX.out.kept HT2.out.keeps).kept hK3) rfl HXo.out
          unfold LoadM at cM
          clear cL hK3 hbad
          go_wp2_with fail
          refine cM.mono ?_
          rintro _ w4 (⟨sz', b4, v4, Y4, hsz, _, hl4, hok4, _⟩ | ⟨hs4, _⟩ | ⟨_, _, rfl, hK4⟩)
          case inl => exact absurd ⟨by omega, hok4⟩ HBd.out
          case inr.inl => exact absurd hs hs4
          have HTt := hide (HT3.out.kept hK4)
          clear cM hK4
          go_upto_region 8 with fail
          go_quiet (fail)
          have HTs := hide (HTt.out.kept (drewN_kept w4 nq))
          go_wp2_with fail
          go_loopw [13] (fun iv wr => LoI w1 b sz n iv wr) (fun iv _ => n - (intOf iv).toNat)
          case atStart => exact ⟨0, _, rfl, Nat.zero_le _, HTs, ldOk_nil⟩
          case round =>
            obtain ⟨i, L, rfl, hi, HLv0, HLd0⟩ := hrel
            by_cases hlt : i < n
            · have hlt' : (i : Int) < n := by omega
              have hic : i ≤ c := by omega
              have hiD : i < D.length := by rw [HL.out]; exact hlt
              obtain ⟨g, o, he, hx⟩ := HD.out.2.2.2.1 i hiD
              subst he
              obtain ⟨hko, hod⟩ := HD.out.2.2.2.2 _ (List.getElem_mem hiD)
              obtain ⟨mo, mm, mc, hm2⟩ := hko.one
              obtain ⟨z0, z1, z2, z3, z4, z5, z6, z7, z8, z9, z10⟩ := hx
              rw [hm2] at z9 hko
              generalize D[i].1 = y at *
              have HKo := hide hko
              have HOd := hide hod
              have HKc := hide HLv0.out.keeps
              have d0 := HKc.out.cell z0 (by simp)
              clear hko hod hm2 hiD
              by_cases ho : y.o ≤ 1
              · have h01 : y.o ≤ 1 := ho
                have cC := liveT_open (HLv0.out.kept (Kept.refl [] wr).drew) y.n HOd.out.1 y.i
                go_upto_region 17 with fail
                refine wp_region_held_drew (S := fun w' => w'.cell? ⟨g, o + i * 11 + 3, none⟩ = some (.string (str y.n)) ∧ w'.cell? ⟨g, o + i * 11 + 1, none⟩ = some (.int .i64 y.i)) (by kernel_rfl) ⟨HKc.out.cell z3 (by simp), HKc.out.cell z1 (by simp)⟩ (fun hHeld => ?_)
                refine wpAnyH_take (i := 0) (v := ?_) rfl (by kernel_rfl) (by kernel_rfl) (by kernel_rfl) (fun _ _ _ h => h) (Or.inl ⟨by rfl, ?_⟩) hHeld ?_
                rotate_left
                · intro w9 hSw; (try dsimp only at hSw); go_simp; (try with_reducible rfl)
                try simp only [List.getElem_toArray, List.getElem_cons_succ, List.getElem_cons_zero, Act.put, List.setIfInBounds_toArray, List.set_cons_zero, List.set_cons_succ]
                refine wpAnyH_take (i := 1) (v := ?_) rfl (by kernel_rfl) (by kernel_rfl) (by kernel_rfl) (fun _ _ _ h => h) (Or.inl ⟨by rfl, ?_⟩) hHeld ?_
                rotate_left
                · intro w9 hSw; (try dsimp only at hSw); go_simp; (try with_reducible rfl)
                try simp only [List.getElem_toArray, List.getElem_cons_succ, List.getElem_cons_zero, Act.put, List.setIfInBounds_toArray, List.set_cons_zero, List.set_cons_succ]
                refine wpAnyH_take (i := 2) (v := ?_) rfl (by kernel_rfl) (by kernel_rfl) (by kernel_rfl) (fun _ _ _ h => h) (Or.inl ⟨by rfl, ?_⟩) hHeld ?_
                rotate_left
                · intro w9 hSw; (try dsimp only at hSw); go_simp; (try with_reducible rfl)
                try simp only [List.getElem_toArray, List.getElem_cons_succ, List.getElem_cons_zero, Act.put, List.setIfInBounds_toArray, List.set_cons_zero, List.set_cons_succ]
                refine wpAnyH_take (i := 3) (v := ?_) rfl (by kernel_rfl) (by kernel_rfl) (by kernel_rfl) (fun _ _ _ h => h) (Or.inl ⟨by rfl, ?_⟩) hHeld ?_
                rotate_left
                · intro w9 hSw; (try dsimp only at hSw); go_simp; (try with_reducible rfl)
                try simp only [List.getElem_toArray, List.getElem_cons_succ, List.getElem_cons_zero, Act.put, List.setIfInBounds_toArray, List.set_cons_zero, List.set_cons_succ]
                refine wpAnyH_take (i := 4) (v := ?_) rfl (by kernel_rfl) (by kernel_rfl) (by kernel_rfl) (fun _ _ _ h => h) (Or.inl ⟨by rfl, ?_⟩) hHeld ?_
                rotate_left
                · intro w9 hSw; (try dsimp only at hSw); go_simp; (try with_reducible rfl)
                try simp only [List.getElem_toArray, List.getElem_cons_succ, List.getElem_cons_zero, Act.put, List.setIfInBounds_toArray, List.set_cons_zero, List.set_cons_succ]
                refine wpAnyH_take (i := 5) (v := ?_) rfl (by kernel_rfl) (by kernel_rfl) (by kernel_rfl) (fun _ _ _ h => h) (Or.inl ⟨by rfl, ?_⟩) hHeld ?_
                rotate_left
                · intro w9 hSw; (try dsimp only at hSw); go_simp; (try with_reducible rfl)
                try simp only [List.getElem_toArray, List.getElem_cons_succ, List.getElem_cons_zero, Act.put, List.setIfInBounds_toArray, List.set_cons_zero, List.set_cons_succ]
                refine wpAnyH_take (i := 6) (v := ?_) rfl (by kernel_rfl) (by kernel_rfl) (by kernel_rfl) (fun _ _ _ h => h) (Or.inl ⟨by rfl, ?_⟩) hHeld ?_
                rotate_left
                · intro w9 hSw; (try dsimp only at hSw); go_simp; (try with_reducible rfl)
                try simp only [List.getElem_toArray, List.getElem_cons_succ, List.getElem_cons_zero, Act.put, List.setIfInBounds_toArray, List.set_cons_zero, List.set_cons_succ]
                refine wpAnyH_take (i := 7) (v := ?_) rfl (by kernel_rfl) (by kernel_rfl) (by kernel_rfl) (fun _ _ _ h => h) (Or.inl ⟨by rfl, ?_⟩) hHeld ?_
                rotate_left
                · intro w9 hSw; (try dsimp only at hSw); go_simp; (try with_reducible rfl)
                try simp only [List.getElem_toArray, List.getElem_cons_succ, List.getElem_cons_zero, Act.put, List.setIfInBounds_toArray, List.set_cons_zero, List.set_cons_succ]
                refine wpAnyH_take (i := 8) (v := ?_) rfl (by kernel_rfl) (by kernel_rfl) (by kernel_rfl) (fun _ _ _ h => h) (Or.inl ⟨by rfl, ?_⟩) hHeld ?_
                rotate_left
                · intro w9 hSw; (try dsimp only at hSw); go_simp; (try with_reducible rfl)
                try simp only [List.getElem_toArray, List.getElem_cons_succ, List.getElem_cons_zero, Act.put, List.setIfInBounds_toArray, List.set_cons_zero, List.set_cons_succ]
                refine wpAnyH_take (i := 9) (v := ?_) rfl (by kernel_rfl) (by kernel_rfl) (by kernel_rfl) (fun _ _ _ h => h) (Or.inl ⟨by rfl, ?_⟩) hHeld ?_
                rotate_left
                · intro w9 hSw; (try dsimp only at hSw); go_simp; (try with_reducible rfl)
                try simp only [List.getElem_toArray, List.getElem_cons_succ, List.getElem_cons_zero, Act.put, List.setIfInBounds_toArray, List.set_cons_zero, List.set_cons_succ]
                refine wpAnyH_take (i := 10) (v := ?_) rfl (by kernel_rfl) (by kernel_rfl) (by kernel_rfl) (fun _ _ _ h => h) (Or.inl ⟨by rfl, ?_⟩) hHeld ?_
                rotate_left
                · intro w9 hSw; (try dsimp only at hSw); go_simp; (try with_reducible rfl)
                try simp only [List.getElem_toArray, List.getElem_cons_succ, List.getElem_cons_zero, Act.put, List.setIfInBounds_toArray, List.set_cons_zero, List.set_cons_succ]
                refine wpAnyH_ready (rs := [11]) (by kernel_rfl) (by simp) (AllReadyH.cons rfl (fun K0 hK0 => ?_) AllReadyH.nil)
                go_simp
                refine (cC).mono ?_
                rintro _ w5 ⟨rfl, hP5, _⟩
                replace HKc := hide hP5.keeps
                have HLv5 := hide hP5
                have HLd5 := hide (ldOk_open HLd0.out sz y.n y.i)
                clear hP5
                go_wp2_with fail
                refine hK0.out _ _ ⟨HKc.out.cell z3 (by simp), HKc.out.cell z1 (by simp)⟩ (fun hHeld => ?_)
                clear hK0 K0
                try simp only [List.getElem_toArray, List.getElem_cons_succ, List.getElem_cons_zero, Act.put, List.setIfInBounds_toArray, List.set_cons_zero, List.set_cons_succ]
                refine wpAnyH_done (by kernel_rfl) ?_ _
                clear hHeld cC HKc d0 z0 z1 z2 z3 z4 z5 z6 z7 z8 z9 z10
                go_wp2_with fail
                go_roundw
                case rel => exact ⟨i + 1, _, by go_num, by omega, HLv5, HLd5⟩
                case measure => simp [intOf]; omega
              · by_cases ho4 : y.o ≤ 4
                · have h01 : ¬ y.o ≤ 1 := ho
                  have h04 : y.o ≤ 4 := ho4
                  have cC := liveT_ask (HLv0.out.kept (Kept.refl [] wr).drew) y.i y.q
                  go_upto_region 19 with fail
                  refine wp_region_held_drew (S := fun w' => w'.cell? ⟨g, o + i * 11 + 1, none⟩ = some (.int .i64 y.i) ∧ w'.cell? ⟨g, o + i * 11 + 2, none⟩ = some (.int .i64 y.q)) (by kernel_rfl) ⟨HKc.out.cell z1 (by simp), HKc.out.cell z2 (by simp)⟩ (fun hHeld => ?_)
                  refine wpAnyH_take (i := 0) (v := ?_) rfl (by kernel_rfl) (by kernel_rfl) (by kernel_rfl) (fun _ _ _ h => h) (Or.inl ⟨by rfl, ?_⟩) hHeld ?_
                  rotate_left
                  · intro w9 hSw; (try dsimp only at hSw); go_simp; (try with_reducible rfl)
                  try simp only [List.getElem_toArray, List.getElem_cons_succ, List.getElem_cons_zero, Act.put, List.setIfInBounds_toArray, List.set_cons_zero, List.set_cons_succ]
                  refine wpAnyH_take (i := 1) (v := ?_) rfl (by kernel_rfl) (by kernel_rfl) (by kernel_rfl) (fun _ _ _ h => h) (Or.inl ⟨by rfl, ?_⟩) hHeld ?_
                  rotate_left
                  · intro w9 hSw; (try dsimp only at hSw); go_simp; (try with_reducible rfl)
                  try simp only [List.getElem_toArray, List.getElem_cons_succ, List.getElem_cons_zero, Act.put, List.setIfInBounds_toArray, List.set_cons_zero, List.set_cons_succ]
                  refine wpAnyH_take (i := 2) (v := ?_) rfl (by kernel_rfl) (by kernel_rfl) (by kernel_rfl) (fun _ _ _ h => h) (Or.inl ⟨by rfl, ?_⟩) hHeld ?_
                  rotate_left
                  · intro w9 hSw; (try dsimp only at hSw); go_simp; (try with_reducible rfl)
                  try simp only [List.getElem_toArray, List.getElem_cons_succ, List.getElem_cons_zero, Act.put, List.setIfInBounds_toArray, List.set_cons_zero, List.set_cons_succ]
                  refine wpAnyH_take (i := 3) (v := ?_) rfl (by kernel_rfl) (by kernel_rfl) (by kernel_rfl) (fun _ _ _ h => h) (Or.inl ⟨by rfl, ?_⟩) hHeld ?_
                  rotate_left
                  · intro w9 hSw; (try dsimp only at hSw); go_simp; (try with_reducible rfl)
                  try simp only [List.getElem_toArray, List.getElem_cons_succ, List.getElem_cons_zero, Act.put, List.setIfInBounds_toArray, List.set_cons_zero, List.set_cons_succ]
                  refine wpAnyH_take (i := 4) (v := ?_) rfl (by kernel_rfl) (by kernel_rfl) (by kernel_rfl) (fun _ _ _ h => h) (Or.inl ⟨by rfl, ?_⟩) hHeld ?_
                  rotate_left
                  · intro w9 hSw; (try dsimp only at hSw); go_simp; (try with_reducible rfl)
                  try simp only [List.getElem_toArray, List.getElem_cons_succ, List.getElem_cons_zero, Act.put, List.setIfInBounds_toArray, List.set_cons_zero, List.set_cons_succ]
                  refine wpAnyH_take (i := 5) (v := ?_) rfl (by kernel_rfl) (by kernel_rfl) (by kernel_rfl) (fun _ _ _ h => h) (Or.inl ⟨by rfl, ?_⟩) hHeld ?_
                  rotate_left
                  · intro w9 hSw; (try dsimp only at hSw); go_simp; (try with_reducible rfl)
                  try simp only [List.getElem_toArray, List.getElem_cons_succ, List.getElem_cons_zero, Act.put, List.setIfInBounds_toArray, List.set_cons_zero, List.set_cons_succ]
                  refine wpAnyH_take (i := 6) (v := ?_) rfl (by kernel_rfl) (by kernel_rfl) (by kernel_rfl) (fun _ _ _ h => h) (Or.inl ⟨by rfl, ?_⟩) hHeld ?_
                  rotate_left
                  · intro w9 hSw; (try dsimp only at hSw); go_simp; (try with_reducible rfl)
                  try simp only [List.getElem_toArray, List.getElem_cons_succ, List.getElem_cons_zero, Act.put, List.setIfInBounds_toArray, List.set_cons_zero, List.set_cons_succ]
                  refine wpAnyH_take (i := 7) (v := ?_) rfl (by kernel_rfl) (by kernel_rfl) (by kernel_rfl) (fun _ _ _ h => h) (Or.inl ⟨by rfl, ?_⟩) hHeld ?_
                  rotate_left
                  · intro w9 hSw; (try dsimp only at hSw); go_simp; (try with_reducible rfl)
                  try simp only [List.getElem_toArray, List.getElem_cons_succ, List.getElem_cons_zero, Act.put, List.setIfInBounds_toArray, List.set_cons_zero, List.set_cons_succ]
                  refine wpAnyH_take (i := 8) (v := ?_) rfl (by kernel_rfl) (by kernel_rfl) (by kernel_rfl) (fun _ _ _ h => h) (Or.inl ⟨by rfl, ?_⟩) hHeld ?_
                  rotate_left
                  · intro w9 hSw; (try dsimp only at hSw); go_simp; (try with_reducible rfl)
                  try simp only [List.getElem_toArray, List.getElem_cons_succ, List.getElem_cons_zero, Act.put, List.setIfInBounds_toArray, List.set_cons_zero, List.set_cons_succ]
                  refine wpAnyH_take (i := 9) (v := ?_) rfl (by kernel_rfl) (by kernel_rfl) (by kernel_rfl) (fun _ _ _ h => h) (Or.inl ⟨by rfl, ?_⟩) hHeld ?_
                  rotate_left
                  · intro w9 hSw; (try dsimp only at hSw); go_simp; (try with_reducible rfl)
                  try simp only [List.getElem_toArray, List.getElem_cons_succ, List.getElem_cons_zero, Act.put, List.setIfInBounds_toArray, List.set_cons_zero, List.set_cons_succ]
                  refine wpAnyH_take (i := 10) (v := ?_) rfl (by kernel_rfl) (by kernel_rfl) (by kernel_rfl) (fun _ _ _ h => h) (Or.inl ⟨by rfl, ?_⟩) hHeld ?_
                  rotate_left
                  · intro w9 hSw; (try dsimp only at hSw); go_simp; (try with_reducible rfl)
                  try simp only [List.getElem_toArray, List.getElem_cons_succ, List.getElem_cons_zero, Act.put, List.setIfInBounds_toArray, List.set_cons_zero, List.set_cons_succ]
                  refine wpAnyH_ready (rs := [11]) (by kernel_rfl) (by simp) (AllReadyH.cons rfl (fun K0 hK0 => ?_) AllReadyH.nil)
                  go_simp
                  refine (cC).mono ?_
                  rintro _ w5 ⟨⟨a5, n5, c5, rfl, _⟩, hP5, _⟩
                  replace HKc := hide hP5.keeps
                  have HLv5 := hide hP5
                  have HLd5 := hide (ldOk_ask HLd0.out y.i)
                  clear hP5
                  go_wp2_with fail
                  refine hK0.out _ _ ⟨HKc.out.cell z1 (by simp), HKc.out.cell z2 (by simp)⟩ (fun hHeld => ?_)
                  clear hK0 K0
                  try simp only [List.getElem_toArray, List.getElem_cons_succ, List.getElem_cons_zero, Act.put, List.setIfInBounds_toArray, List.set_cons_zero, List.set_cons_succ]
                  refine wpAnyH_done (by kernel_rfl) ?_ _
                  clear hHeld cC HKc d0 z0 z1 z2 z3 z4 z5 z6 z7 z8 z9 z10
                  go_wp2_with fail
                  go_roundw
                  case rel => exact ⟨i + 1, _, by go_num, by omega, HLv5, HLd5⟩
                  case measure => simp [intOf]; omega
                · have h01 : ¬ y.o ≤ 1 := ho
                  have h04 : ¬ y.o ≤ 4 := ho4
                  have cC := liveT_done (HLv0.out.kept (Kept.refl [] wr).drew) y.i y.q y.v (.slice mo mm mc) (HKo.out.kept (HKc.out.trans (Kept.refl [] wr).drew (by simp))) HOd.out.2
                  unfold vtV at cC
                  go_upto_region 15 with fail
                  refine wp_region_held_drew (S := fun w' => w'.cell? ⟨g, o + i * 11 + 1, none⟩ = some (.int .i64 y.i) ∧ w'.cell? ⟨g, o + i * 11 + 2, none⟩ = some (.int .i64 y.q) ∧ w'.cell? ⟨g, o + i * 11 + 4, none⟩ = some (.int .i64 y.v.c) ∧ w'.cell? ⟨g, o + i * 11 + 5, none⟩ = some (.int .i64 y.v.s) ∧ w'.cell? ⟨g, o + i * 11 + 6, none⟩ = some (.int .i64 y.v.r) ∧ w'.cell? ⟨g, o + i * 11 + 7, none⟩ = some (.string (str y.v.p)) ∧ w'.cell? ⟨g, o + i * 11 + 8, none⟩ = some (.int .u64 y.v.d) ∧ w'.cell? ⟨g, o + i * 11 + 9, none⟩ = some (.slice mo mm mc) ∧ w'.cell? ⟨g, o + i * 11 + 10, none⟩ = some (.int .i64 y.v.m)) (by kernel_rfl) ⟨HKc.out.cell z1 (by simp), HKc.out.cell z2 (by simp), HKc.out.cell z4 (by simp), HKc.out.cell z5 (by simp), HKc.out.cell z6 (by simp), HKc.out.cell z7 (by simp), HKc.out.cell z8 (by simp), HKc.out.cell z9 (by simp), HKc.out.cell z10 (by simp)⟩ (fun hHeld => ?_)
                  refine wpAnyH_take (i := 0) (v := ?_) rfl (by kernel_rfl) (by kernel_rfl) (by kernel_rfl) (fun _ _ _ h => h) (Or.inl ⟨by rfl, ?_⟩) hHeld ?_
                  rotate_left
                  · intro w9 hSw; (try dsimp only at hSw); go_simp; (try with_reducible rfl)
                  try simp only [List.getElem_toArray, List.getElem_cons_succ, List.getElem_cons_zero, Act.put, List.setIfInBounds_toArray, List.set_cons_zero, List.set_cons_succ]
                  refine wpAnyH_take (i := 1) (v := ?_) rfl (by kernel_rfl) (by kernel_rfl) (by kernel_rfl) (fun _ _ _ h => h) (Or.inl ⟨by rfl, ?_⟩) hHeld ?_
                  rotate_left
                  · intro w9 hSw; (try dsimp only at hSw); go_simp; (try with_reducible rfl)
                  try simp only [List.getElem_toArray, List.getElem_cons_succ, List.getElem_cons_zero, Act.put, List.setIfInBounds_toArray, List.set_cons_zero, List.set_cons_succ]
                  refine wpAnyH_take (i := 2) (v := ?_) rfl (by kernel_rfl) (by kernel_rfl) (by kernel_rfl) (fun _ _ _ h => h) (Or.inl ⟨by rfl, ?_⟩) hHeld ?_
                  rotate_left
                  · intro w9 hSw; (try dsimp only at hSw); go_simp; (try with_reducible rfl)
                  try simp only [List.getElem_toArray, List.getElem_cons_succ, List.getElem_cons_zero, Act.put, List.setIfInBounds_toArray, List.set_cons_zero, List.set_cons_succ]
                  refine wpAnyH_take (i := 3) (v := ?_) rfl (by kernel_rfl) (by kernel_rfl) (by kernel_rfl) (fun _ _ _ h => h) (Or.inl ⟨by rfl, ?_⟩) hHeld ?_
                  rotate_left
                  · intro w9 hSw; (try dsimp only at hSw); go_simp; (try with_reducible rfl)
                  try simp only [List.getElem_toArray, List.getElem_cons_succ, List.getElem_cons_zero, Act.put, List.setIfInBounds_toArray, List.set_cons_zero, List.set_cons_succ]
                  refine wpAnyH_take (i := 4) (v := ?_) rfl (by kernel_rfl) (by kernel_rfl) (by kernel_rfl) (fun _ _ _ h => h) (Or.inl ⟨by rfl, ?_⟩) hHeld ?_
                  rotate_left
                  · intro w9 hSw; (try dsimp only at hSw); go_simp; (try with_reducible rfl)
                  try simp only [List.getElem_toArray, List.getElem_cons_succ, List.getElem_cons_zero, Act.put, List.setIfInBounds_toArray, List.set_cons_zero, List.set_cons_succ]
                  refine wpAnyH_take (i := 5) (v := ?_) rfl (by kernel_rfl) (by kernel_rfl) (by kernel_rfl) (fun _ _ _ h => h) (Or.inl ⟨by rfl, ?_⟩) hHeld ?_
                  rotate_left
                  · intro w9 hSw; (try dsimp only at hSw); go_simp; (try with_reducible rfl)
                  try simp only [List.getElem_toArray, List.getElem_cons_succ, List.getElem_cons_zero, Act.put, List.setIfInBounds_toArray, List.set_cons_zero, List.set_cons_succ]
                  refine wpAnyH_take (i := 6) (v := ?_) rfl (by kernel_rfl) (by kernel_rfl) (by kernel_rfl) (fun _ _ _ h => h) (Or.inl ⟨by rfl, ?_⟩) hHeld ?_
                  rotate_left
                  · intro w9 hSw; (try dsimp only at hSw); go_simp; (try with_reducible rfl)
                  try simp only [List.getElem_toArray, List.getElem_cons_succ, List.getElem_cons_zero, Act.put, List.setIfInBounds_toArray, List.set_cons_zero, List.set_cons_succ]
                  refine wpAnyH_take (i := 7) (v := ?_) rfl (by kernel_rfl) (by kernel_rfl) (by kernel_rfl) (fun _ _ _ h => h) (Or.inl ⟨by rfl, ?_⟩) hHeld ?_
                  rotate_left
                  · intro w9 hSw; (try dsimp only at hSw); go_simp; (try with_reducible rfl)
                  try simp only [List.getElem_toArray, List.getElem_cons_succ, List.getElem_cons_zero, Act.put, List.setIfInBounds_toArray, List.set_cons_zero, List.set_cons_succ]
                  refine wpAnyH_take (i := 8) (v := ?_) rfl (by kernel_rfl) (by kernel_rfl) (by kernel_rfl) (fun _ _ _ h => h) (Or.inl ⟨by rfl, ?_⟩) hHeld ?_
                  rotate_left
                  · intro w9 hSw; (try dsimp only at hSw); go_simp; (try with_reducible rfl)
                  try simp only [List.getElem_toArray, List.getElem_cons_succ, List.getElem_cons_zero, Act.put, List.setIfInBounds_toArray, List.set_cons_zero, List.set_cons_succ]
                  refine wpAnyH_take (i := 9) (v := ?_) rfl (by kernel_rfl) (by kernel_rfl) (by kernel_rfl) (fun _ _ _ h => h) (Or.inl ⟨by rfl, ?_⟩) hHeld ?_
                  rotate_left
                  · intro w9 hSw; (try dsimp only at hSw); go_simp; (try with_reducible rfl)
                  try simp only [List.getElem_toArray, List.getElem_cons_succ, List.getElem_cons_zero, Act.put, List.setIfInBounds_toArray, List.set_cons_zero, List.set_cons_succ]
                  refine wpAnyH_take (i := 10) (v := ?_) rfl (by kernel_rfl) (by kernel_rfl) (by kernel_rfl) (fun _ _ _ h => h) (Or.inl ⟨by rfl, ?_⟩) hHeld ?_
                  rotate_left
                  · intro w9 hSw; (try dsimp only at hSw); go_simp; (try with_reducible rfl)
                  try simp only [List.getElem_toArray, List.getElem_cons_succ, List.getElem_cons_zero, Act.put, List.setIfInBounds_toArray, List.set_cons_zero, List.set_cons_succ]
                  refine wpAnyH_take (i := 11) (v := ?_) rfl (by kernel_rfl) (by kernel_rfl) (by kernel_rfl) (fun _ _ _ h => h) (Or.inl ⟨by rfl, ?_⟩) hHeld ?_
                  rotate_left
                  · intro w9 hSw; (try dsimp only at hSw); go_simp; (try with_reducible rfl)
                  try simp only [List.getElem_toArray, List.getElem_cons_succ, List.getElem_cons_zero, Act.put, List.setIfInBounds_toArray, List.set_cons_zero, List.set_cons_succ]
                  refine wpAnyH_take (i := 12) (v := ?_) rfl (by kernel_rfl) (by kernel_rfl) (by kernel_rfl) (fun _ _ _ h => h) (Or.inl ⟨by rfl, ?_⟩) hHeld ?_
                  rotate_left
                  · intro w9 hSw; (try dsimp only at hSw); go_simp; (try with_reducible rfl)
                  try simp only [List.getElem_toArray, List.getElem_cons_succ, List.getElem_cons_zero, Act.put, List.setIfInBounds_toArray, List.set_cons_zero, List.set_cons_succ]
                  refine wpAnyH_take (i := 13) (v := ?_) rfl (by kernel_rfl) (by kernel_rfl) (by kernel_rfl) (fun _ _ _ h => h) (Or.inl ⟨by rfl, ?_⟩) hHeld ?_
                  rotate_left
                  · intro w9 hSw; (try dsimp only at hSw); go_simp; (try with_reducible rfl)
                  try simp only [List.getElem_toArray, List.getElem_cons_succ, List.getElem_cons_zero, Act.put, List.setIfInBounds_toArray, List.set_cons_zero, List.set_cons_succ]
                  refine wpAnyH_take (i := 14) (v := ?_) rfl (by kernel_rfl) (by kernel_rfl) (by kernel_rfl) (fun _ _ _ h => h) (Or.inl ⟨by rfl, ?_⟩) hHeld ?_
                  rotate_left
                  · intro w9 hSw; (try dsimp only at hSw); go_simp; (try with_reducible rfl)
                  try simp only [List.getElem_toArray, List.getElem_cons_succ, List.getElem_cons_zero, Act.put, List.setIfInBounds_toArray, List.set_cons_zero, List.set_cons_succ]
                  refine wpAnyH_take (i := 15) (v := ?_) rfl (by kernel_rfl) (by kernel_rfl) (by kernel_rfl) (fun _ _ _ h => h) (Or.inl ⟨by rfl, ?_⟩) hHeld ?_
                  rotate_left
                  · intro w9 hSw; (try dsimp only at hSw); go_simp; (try with_reducible rfl)
                  try simp only [List.getElem_toArray, List.getElem_cons_succ, List.getElem_cons_zero, Act.put, List.setIfInBounds_toArray, List.set_cons_zero, List.set_cons_succ]
                  refine wpAnyH_ready (rs := [16]) (by kernel_rfl) (by simp) (AllReadyH.cons rfl (fun K0 hK0 => ?_) AllReadyH.nil)
                  go_simp
                  refine (cC).mono ?_
                  rintro _ w5 ⟨rfl, hP5, _⟩
                  replace HKc := hide hP5.keeps
                  have HLv5 := hide hP5
                  have HLd5 := hide (ldOk_done HLd0.out y.i y.q y.v)
                  clear hP5
                  go_wp2_with fail
                  refine hK0.out _ _ ⟨HKc.out.cell z1 (by simp), HKc.out.cell z2 (by simp), HKc.out.cell z4 (by simp), HKc.out.cell z5 (by simp), HKc.out.cell z6 (by simp), HKc.out.cell z7 (by simp), HKc.out.cell z8 (by simp), HKc.out.cell z9 (by simp), HKc.out.cell z10 (by simp)⟩ (fun hHeld => ?_)
                  clear hK0 K0
                  try simp only [List.getElem_toArray, List.getElem_cons_succ, List.getElem_cons_zero, Act.put, List.setIfInBounds_toArray, List.set_cons_zero, List.set_cons_succ]
                  refine wpAnyH_done (by kernel_rfl) ?_ _
                  clear hHeld cC HKc d0 z0 z1 z2 z3 z4 z5 z6 z7 z8 z9 z10
                  go_wp2_with fail
                  go_roundw
                  case rel => exact ⟨i + 1, _, by go_num, by omega, HLv5, HLd5⟩
                  case measure => simp [intOf]; omega
            · have hlt' : ¬ (i : Int) < n := by omega
              have cA := liveT_all HLv0.out
              unfold CopS at cA
              obtain ⟨wt, hwt⟩ : ∃ wt, wt = wr := ⟨_, rfl⟩
              rw [← hwt] at HLv0 cA ⊢
              clear hwt
              have hps := HLv0.out.pos
              go_wp2_with fail
              refine cA.mono ?_
              rintro _ w5 ⟨v5, X5, rfl, hR5, hO5, hM5, hK5⟩
              obtain ⟨ao5, c5, hv5, hs5⟩ := hR5.t.sl (fun y hy => (hO5 y hy).ko)
              subst hv5
              have HOk : Hid (∀ x ∈ L, okS x) := by obtain ⟨_, _, _, _, _, _, _, _, h⟩ := HLv0.out; exact h
              have cL := load_call w5 sz ao5 X5.length c5 X5 L hs5 hM5 HOk.out
              unfold LoadP at cL
              have HT5 := hide (HLv0.out.kept hK5)
              obtain ⟨m5, hm5⟩ : ∃ m5, m5 = X5.length := ⟨_, rfl⟩
              rw [← hm5] at cL ⊢
              clear hR5 hO5 hM5 hK5 hs5 hm5 cA
              go_wp2_with fail
              refine cL.mono ?_
              rintro _ w6 (⟨sz', b6, hsz, _, _, rfl, hT6⟩ | ⟨hs6, _⟩ | ⟨_, hbad, _⟩)
              case inr.inl => exact absurd hs hs6
              case inr.inr => exact absurd ⟨by omega, HLd0.out⟩ hbad
              have hsz' : sz = sz' := by omega
              subst hsz'
              clear hsz cL
              have HT6 := hide hT6
              have HTt6 := hide (HT5.out.kept hT6.keeps)
              have cA := liveT_all HT6.out
              unfold CopS at cA
              clear hT6
              go_wp2_with fail
              refine cA.mono ?_
              rintro _ w7 ⟨v7, X7, rfl, hR7, hO7, hM7, hK7⟩
              obtain ⟨ao7, c7, hv7, hs7⟩ := hR7.t.sl (fun y hy => (hO7 y hy).ko)
              subst hv7
              have HTt7 := hide (HTt6.out.kept hK7)
              have HS7 := hide hs7
              have HM7 := hide hM7
              obtain ⟨m7, hm7⟩ : ∃ m7, m7 = X7.length := ⟨_, rfl⟩
              rw [← hm7] at HS7 ⊢
              have cB := liveT_all HTt7.out
              unfold CopS at cB
              clear cA hR7 hO7 hM7 hK7 hs7 hm7
              go_wp2_with fail
              refine cB.mono ?_
              rintro _ w8 ⟨v8, X8, rfl, hR8, hO8, hM8, hK8⟩
              obtain ⟨ao8, c8, hv8, hs8⟩ := hR8.t.sl (fun y hy => (hO8 y hy).ko)
              subst hv8
              have HTt8 := hide (HTt7.out.kept hK8)
              have cS := sameSs_call w8 ao7 ao8 m7 X8.length c7 c8 X7 X8 (HS7.out.kept hK8) hs8 (by rw [HM7.out, hM8])
              obtain ⟨m8, hm8⟩ : ∃ m8, m8 = X8.length := ⟨_, rfl⟩
              rw [← hm8] at cS ⊢
              clear cB hR8 hO8 hM8 hK8 hs8 hm8
              go_wp2_with fail
              refine cS.mono ?_
              rintro _ w9 ⟨rfl, hK9⟩
              have HTt9 := hide (HTt8.out.kept hK9)
              have cD := liveT_all HTt9.out
              unfold CopS at cD
              clear cS hK9
              go_wp2_with fail
              refine cD.mono ?_
              rintro _ w10 ⟨v10, X10, rfl, hR10, hO10, hM10, hK10⟩
              obtain ⟨ao10, c10, hv10, hs10⟩ := hR10.t.sl (fun y hy => (hO10 y hy).ko)
              subst hv10
              have hl10 : X10.length = L.length := by rw [← hM10]; simp
              have HTf := hide (HK1.out.trans (HTt9.out.kept hK10).keeps (by simp))
              obtain ⟨m10, hm10⟩ : ∃ m10, m10 = X10.length := ⟨_, rfl⟩
              rw [← hm10] at hl10 ⊢
              have hle : (m10 : Int) ≤ sz := by omega
              clear cD hR10 hO10 hM10 hK10 hs10 hm10 hl10
              go_wp2_with fail
              go_ret
              exact ⟨rfl, HTf.out⟩
      · have cN := newT_bad w1 size hs
        go_wp2_with fail
        refine cN.mono ?_
        rintro _ W2 ⟨rfl, hW0⟩
        obtain rfl := hW0.symm
        have cL := load_call w1 size bo m d X _ HX.out rfl HXo.out
        unfold LoadP at cL
        clear cN
        go_wp2_with fail
        refine cL.mono ?_
        rintro _ w3 (⟨sz', b3, hsz, _, _, rfl, hT3⟩ | ⟨_, rfl, hK3⟩ | ⟨hs3, _⟩)
        case inl => exact absurd (by have h := hT3.pos; omega) hs
        case inr.inr => exact absurd hs3 hs
        have cM := mloadT_call w3 size bo m d X _ (HX.out.kept hK3) rfl HXo.out
        unfold LoadM at cM
        have HK3 := hide hK3
        clear cL hK3
        go_wp2_with fail
        refine cM.mono ?_
        rintro _ w4 (⟨sz', b4, v4, Y4, hsz, hs4, _⟩ | ⟨_, rfl, hK4⟩ | ⟨hs4, _⟩)
        case inl => exact absurd hs4 hs
        case inr.inr => exact absurd hs4 hs
        have HK4 := hide ((HK1.out.trans HK3.out (by simp)).trans hK4 (by simp))
        clear cM hK4
        go_upto_region 8 with fail
        go_quiet (fail)
        have HFn := hide (HK4.out.trans (drewN_kept w4 nq) (by simp))
        go_wp2_with fail
        go_ret
        exact ⟨rfl, HFn.out⟩

end Go.Proofs.Ytajkmhepedlmmaa
