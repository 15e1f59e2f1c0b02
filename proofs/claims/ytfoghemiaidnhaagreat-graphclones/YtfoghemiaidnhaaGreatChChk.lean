/-
  change.Check.
-/
import Derived.Test.YtfoghemiaidnhaaGreatChSame
import Derived.Test.YtfoghemiaidnhaaGreatPaNorm2
namespace Go.Proofs.YtfoghemiaidnhaaGreat
open Go.RowKit

/-- May it be a change of a request? -/
def mayB (x : Ch) : Bool := decide (normB x.p = some x.p) && !(x.g && !(x.d == 0))

/-- May they be the changes of a request? -/
def CheckOK (L : List Ch) : Prop := 0 < L.length ∧ L.length ≤ 16 ∧ ∀ i (hi : i < L.length), mayB L[i] = true ∧ ∀ k (hk : k < i), L[k].p ≠ L[i].p

/-- What Check answers. -/
noncomputable def errC (L : List Ch) : Int := @ite _ (CheckOK L) (Classical.propDecidable _) 0 1

theorem errC_ok {L : List Ch} (h : CheckOK L) : errC L = 0 := by unfold errC; rw [if_pos h]
theorem errC_bad {L : List Ch} (h : ¬ CheckOK L) : errC L = 1 := by unfold errC; rw [if_neg h]
theorem errC_zero {L : List Ch} : errC L = 0 ↔ CheckOK L := by
  by_cases h : CheckOK L
  · simp [errC_ok h, h]
  · simp [errC_bad h, h]

theorem checkOK_iff (L : List Ch) : CheckOK L ↔ 0 < L.length ∧ L.length ≤ 16 ∧ (∀ x ∈ L, mayB x = true) ∧ (L.map Ch.p).Nodup := by
  unfold CheckOK
  constructor
  · rintro ⟨h1, h2, h3⟩
    refine ⟨h1, h2, fun x hx => ?_, ?_⟩
    · obtain ⟨i, hi, rfl⟩ := List.getElem_of_mem hx
      exact (h3 i hi).1
    · rw [List.Nodup, List.pairwise_iff_getElem]
      intro i j hi hj hij
      simp only [List.length_map] at hi hj
      simp only [List.getElem_map]
      exact (h3 j hj).2 i hij
  · rintro ⟨h1, h2, h3, h4⟩
    refine ⟨h1, h2, fun i hi => ⟨h3 _ (List.getElem_mem hi), fun k hk => ?_⟩⟩
    rw [List.Nodup, List.pairwise_iff_getElem] at h4
    have := h4 k i (by simp; omega) (by simpa using hi) hk
    simpa using this

theorem str_eqC (p q : List UInt8) : ((str p).toList == (str q).toList) = decide (p = q) := by
  rw [Go.ByteArray.toList_eq, Go.ByteArray.toList_eq, str_data, str_data]
  by_cases h : p = q <;> simp [h]

theorem SlC.take {w : World} {ao : Option Addr} {n c : Nat} {L : List Ch} (h : SlC w ao n c L) {k : Nat} (hk : k ≤ n) : SlC w ao k c (L.take k) := by
  refine ⟨by rw [List.length_take, h.1]; omega, by have := h.2.1; omega, h.2.2.1, fun i hi => ?_⟩
  rw [List.length_take] at hi
  obtain ⟨b, o, e, h1⟩ := h.2.2.2 i (by omega)
  exact ⟨b, o, e, by rw [List.getElem_take]; exact h1⟩

theorem cell_inC {w : World} {b k : Nat} {vs : Array Value} {t : TypeId} {v : Value} (h : w.heap[b]? = some (.cells vs t (0, 0))) (hv : vs[k]? = some v) : w.cell? ⟨b, k, none⟩ = some v := by
  simp [World.cell?, h, hv]

set_option maxHeartbeats 2000000 in
theorem has1_call (w : World) (b : Nat) (p : List UInt8) (x : Ch) (hp : w.cell? ⟨b, 0, none⟩ = some (.string (str p))) :
    Calls Tryz.prog 98 #[.agg #[.string (str x.p), .bool x.g, .int .u64 x.d], .pointer (some ⟨b, 0, none⟩)] w fun e w' => e = .returned (.bool (decide (x.p = p))) ∧ Kept [] w w' := by
  have hK := (Kept.refl [] w).alloc (.cells #[.string (str x.p), .bool x.g, .int .u64 x.d] 31)
  have hp' := hK.cell hp (by simp)
  have he := str_eqC x.p p
  generalize decide (x.p = p) = R at he
  clear hp
  go_enter Tryz.func98, Tryz.ntmps98
  go_wp2_with fail
  go_ret
  exact ⟨rfl, hK⟩

set_option maxHeartbeats 2000000 in
theorem idx_call (w : World) (b : Nat) (ao : Option Addr) (n c : Nat) (L : List Ch) (p : List UInt8) (hp : w.cell? ⟨b, 0, none⟩ = some (.string (str p))) (hS : SlC w ao n c L) :
    Calls Tryz.prog 120 #[.slice ao n c, .func (.func 98) #[] #[.pointer (some ⟨b, 0, none⟩)]] w fun e w' => ∃ z : Int, e = .returned (.int .i64 z) ∧ (0 ≤ z ↔ ∃ x ∈ L, x.p = p) ∧ Kept [] w w' := by
  have hl := hS.1
  subst hl
  have hc := hS.2.1
  have hm := hS.2.2.1
  unfold maxLen at hm
  have HS : Hid (SlC w ao L.length c L) := hS
  have HP : Hid (w.cell? ⟨b, 0, none⟩ = some (.string (str p))) := hp
  clear hS hp
  go_enter Tryz.func120, Tryz.ntmps120
  go_wp2_with fail
  go_loopw [8] (fun iv wr => ∃ k : Nat, k ≤ L.length ∧ iv = .int .i64 k ∧ Hid (Kept [] w wr) ∧ Hid (∀ i (hi : i < L.length), i < k → L[i].p ≠ p)) (fun iv _ => L.length - (intOf iv).toNat)
  case atStart => exact ⟨0, Nat.zero_le _, rfl, Kept.refl _ _, fun i _ h => by omega⟩
  case round =>
    obtain ⟨k, hk, rfl, HK, HN⟩ := hrel
    by_cases hlt : k < L.length
    · obtain ⟨g, o, hao, hx⟩ := HS.out.2.2.2 k hlt
      subst hao
      obtain ⟨c0, c1, c2⟩ := hx.kept HK.out (by simp)
      have c1' := fun w' (h : Kept [] w w') => has1_call w' b p L[k] (h.cell HP.out (by simp))
      have hlt' : (k : Int) < L.length := by omega
      obtain ⟨x, hxe⟩ : ∃ x, x = L[k] := ⟨_, rfl⟩
      have HX : Hid (x = L[k]) := hxe
      rw [← hxe] at c0 c1 c2 c1'
      clear hx hxe
      by_cases he : x.p = p
      · rw [decide_eq_true he] at c1'
        have HE : Hid (x.p = p) := he
        clear he
        go_wp2_with fail
        refine (c1' _ HK.out).mono ?_
        rintro e w2 ⟨rfl, hK2⟩
        clear c1'
        go_wp2_with fail
        go_ret
        refine ⟨k, rfl, ⟨fun _ => ⟨x, ?_, HE.out⟩, fun _ => by omega⟩, HK.out.trans hK2 (by simp)⟩
        rw [HX.out]; exact List.getElem_mem hlt
      · rw [decide_eq_false he] at c1'
        have HE : Hid (x.p ≠ p) := he
        clear he
        go_wp2_with fail
        refine (c1' _ HK.out).mono ?_
        rintro e w2 ⟨rfl, hK2⟩
        have HK2 : Hid (Kept [] w w2) := HK.out.trans hK2 (by simp)
        clear c1' hK2
        go_wp2_with fail
        go_roundw
        case rel =>
          refine ⟨k + 1, by omega, by go_num, HK2, fun i hi h => ?_⟩
          by_cases e : i = k
          · subst e; rw [← HX.out]; exact HE.out
          · exact HN.out i hi (by omega)
        case measure => simp [intOf]; omega
    · have hlt' : ¬ (k : Int) < L.length := by omega
      go_wp2_with fail
      go_ret
      refine ⟨-1, rfl, ⟨fun h => by omega, fun ⟨x, hx, he⟩ => ?_⟩, HK.out⟩
      obtain ⟨i, hi, rfl⟩ := List.getElem_of_mem hx
      exact absurd he (HN.out i hi (by omega))

set_option maxHeartbeats 2000000 in
theorem contains_call (w : World) (b : Nat) (ao : Option Addr) (n c : Nat) (L : List Ch) (p : List UInt8) (hp : w.cell? ⟨b, 0, none⟩ = some (.string (str p))) (hS : SlC w ao n c L) :
    Calls Tryz.prog 97 #[.slice ao n c, .func (.func 98) #[] #[.pointer (some ⟨b, 0, none⟩)]] w fun e w' => e = .returned (.bool (L.any fun x => decide (x.p = p))) ∧ Kept [] w w' := by
  have cI := idx_call w b ao n c L p hp hS
  have hA : ∀ z : Int, (0 ≤ z ↔ ∃ x ∈ L, x.p = p) → decide (0 ≤ z) = L.any fun x => decide (x.p = p) := fun z hz => by
    rw [Bool.eq_iff_iff]; simp [hz]
  generalize (L.any fun x => decide (x.p = p)) = R at hA ⊢
  have HA : Hid (∀ z : Int, (0 ≤ z ↔ ∃ x ∈ L, x.p = p) → decide (0 ≤ z) = R) := hA
  clear hS hp hA
  go_enter Tryz.func97, Tryz.ntmps97
  go_wp2_with fail
  refine cI.mono ?_
  rintro e w2 ⟨z, rfl, hz, hK⟩
  have HE : Hid (decide (0 ≤ z) = R) := HA.out z hz
  clear hz cI
  go_wp2_with fail
  go_ret
  exact ⟨by rw [← HE.out]; rfl, hK⟩

set_option maxHeartbeats 2000000 in
theorem has_call (w : World) (ao : Option Addr) (n c : Nat) (L : List Ch) (p : List UInt8) (hS : SlC w ao n c L) :
    Calls Tryz.prog 81 #[.slice ao n c, .string (str p)] w fun e w' => e = .returned (.bool (L.any fun x => decide (x.p = p))) ∧ Kept [] w w' := by
  have hK := (Kept.refl [] w).alloc (.cells #[.string (str p)] 9)
  have h0 : (w.alloc (.cells #[.string (str p)] 9)).cell? ⟨w.heap.size, 0, none⟩ = some (.string (str p)) :=
    cell_inC (heap_alloc_new w (.cells #[.string (str p)] 9)) rfl
  have cC := contains_call _ w.heap.size ao n c L p h0 (hS.kept hK (by simp))
  generalize (L.any fun x => decide (x.p = p)) = R at cC ⊢
  clear hS h0
  go_enter Tryz.func81, Tryz.ntmps81
  go_wp2_with fail
  refine cC.mono ?_
  rintro e w2 ⟨rfl, hK2⟩
  go_wp2_with fail
  go_ret
  exact ⟨rfl, hK.trans hK2 (by simp)⟩

theorem box3 (w : World) (x : Ch) (t : TypeId) : ChAt (w.alloc (.cells #[.string (str x.p), .bool x.g, .int .u64 x.d] t)) w.heap.size 0 x := by
  have h := heap_alloc_new w (.cells #[.string (str x.p), .bool x.g, .int .u64 x.d] t)
  exact ⟨cell_inC h rfl, cell_inC h rfl, cell_inC h rfl⟩

set_option maxHeartbeats 2000000 in
theorem may_call (w : World) (x : Ch) (hx : x.p.length ≤ 1000000000000) :
    Calls Tryz.prog 80 #[.agg #[.string (str x.p), .bool x.g, .int .u64 x.d]] w fun e w' => e = .returned (.bool (mayB x)) ∧ Kept [] w w' := by
  have hK := (Kept.refl [] w).alloc (.cells #[.string (str x.p), .bool x.g, .int .u64 x.d] 31)
  have hB := box3 w x 31
  have cN := fun W => normal_call x.p W hx
  have hm : mayB x = (decide (normB x.p = some x.p) && !(x.g && !(x.d == 0))) := rfl
  rcases hn : normB x.p with _ | q
  · rw [hn] at cN hm
    have hm2 : mayB x = false := by rw [hm]; simp
    rw [hm2]
    clear hm hm2 hn
    replace cN : ∀ W, Calls Tryz.prog 33 #[.string (str x.p)] W fun e w' => e = .returned (.tuple #[.string ByteArray.empty, .bool false]) ∧ Kept [] W w' := cN
    go_enter Tryz.func80, Tryz.ntmps80
    go_wp2_with fail
    refine (cN _).mono ?_
    rintro e w2 ⟨rfl, hK2⟩
    obtain ⟨c0, c1, c2⟩ := hB.kept hK2 (by simp)
    rw [Nat.zero_add] at c1 c2
    have hKw := hK.trans hK2 (by simp)
    clear hB hK hK2 cN
    go_wp2_with fail
    go_ret
    exact ⟨rfl, hKw⟩
  · rw [hn] at cN hm
    replace cN : ∀ W, Calls Tryz.prog 33 #[.string (str x.p)] W fun e w' => e = .returned (.tuple #[.string (str q), .bool true]) ∧ Kept [] W w' := cN
    have he := str_eqC q x.p
    have hm2 : mayB x = (decide (q = x.p) && !(x.g && !(x.d == 0))) := by rw [hm]; simp
    rw [hm2]
    clear hm hm2 hn
    generalize decide (q = x.p) = r at he ⊢
    obtain ⟨xp, xg, xd⟩ := x
    simp only at *
    cases r <;> cases xg <;> (
      go_enter Tryz.func80, Tryz.ntmps80
      go_wp2_with fail
      refine (cN _).mono ?_
      rintro e w2 ⟨rfl, hK2⟩
      obtain ⟨c0, c1, c2⟩ := hB.kept hK2 (by simp)
      rw [Nat.zero_add] at c1 c2
      have hKw := hK.trans hK2 (by simp)
      clear hB hK hK2 cN
      go_wp2_with fail
      go_ret
      exact ⟨rfl, hKw⟩)

theorem any_take {L : List Ch} {k : Nat} {p : List UInt8} : ((L.take k).any fun x => decide (x.p = p)) = false → ∀ i (hi : i < L.length), i < k → L[i].p ≠ p := by
  intro h i hi hk e
  rw [List.any_eq_false] at h
  have h2 : i < (L.take k).length := by rw [List.length_take]; omega
  have h1 := h (L.take k)[i] (List.getElem_mem h2)
  rw [List.getElem_take] at h1
  simp [e] at h1

theorem take_any {L : List Ch} {k : Nat} {p : List UInt8} : ((L.take k).any fun x => decide (x.p = p)) = true → ∃ i, ∃ (hi : i < L.length), i < k ∧ L[i].p = p := by
  intro h
  rw [List.any_eq_true] at h
  obtain ⟨x, hx, he⟩ := h
  obtain ⟨i, hi, rfl⟩ := List.getElem_of_mem hx
  rw [List.length_take] at hi
  refine ⟨i, by omega, by omega, ?_⟩
  rw [List.getElem_take] at he
  simpa using he

set_option maxHeartbeats 4000000 in
theorem check_call (w : World) (ao : Option Addr) (n c : Nat) (L : List Ch) (hS : SlC w ao n c L) (hp : ∀ x ∈ L, x.p.length ≤ 1000000000000) :
    Calls Tryz.prog 56 #[.slice ao n c] w fun e w' => e = .returned (.int .i64 (errC L)) ∧ Kept [] w w' := by
  have hl := hS.1
  subst hl
  have hc := hS.2.1
  have hm := hS.2.2.1
  unfold maxLen at hm
  by_cases h0 : L.length = 0
  · rw [errC_bad (fun h => by have := h.1; omega)]
    have h0' : ((L.length : Int) == 0) = true := by simp [h0]
    clear hS
    go_enter Tryz.func56, Tryz.ntmps56
    go_wp2_with fail
    go_ret
    exact ⟨rfl, Kept.refl _ _⟩
  have h0' : ((L.length : Int) == 0) = false := by simp [h0]
  by_cases h1 : 16 < L.length
  · rw [errC_bad (fun h => by have := h.2.1; omega)]
    have h1' : (16 : Int) < L.length := by omega
    clear hS
    go_enter Tryz.func56, Tryz.ntmps56
    go_wp2_with fail
    go_ret
    exact ⟨rfl, Kept.refl _ _⟩
  have h1' : ¬ (16 : Int) < L.length := by omega
  obtain ⟨b, o, hao, _⟩ := hS.some (by omega)
  subst hao
  have HS : Hid (SlC w (some ⟨b, o, none⟩) L.length c L) := hS
  have HP : Hid (∀ x ∈ L, x.p.length ≤ 1000000000000) := hp
  obtain ⟨R, hR⟩ : ∃ R, R = errC L := ⟨_, rfl⟩
  rw [← hR]
  have HR : Hid (R = errC L) := hR
  clear hS hp hR
  go_enter Tryz.func56, Tryz.ntmps56
  go_wp2_with fail
  go_loopw [15] (fun iv wr => ∃ k : Nat, k ≤ L.length ∧ iv = .int .i64 k ∧ Hid (Kept [] w wr) ∧ Hid (∀ i (hi : i < L.length), i < k → mayB L[i] = true ∧ ∀ j (hj : j < i), L[j].p ≠ L[i].p)) (fun iv _ => L.length - (intOf iv).toNat)
  case atStart => exact ⟨0, Nat.zero_le _, rfl, Kept.refl _ _, fun i _ h => by omega⟩
  case round =>
    obtain ⟨k, hk, rfl, HK, HN⟩ := hrel
    by_cases hlt : k < L.length
    · have hlt' : (k : Int) < L.length := by omega
      have hkc : k ≤ c := by omega
      obtain ⟨g', o', hao, hx⟩ := HS.out.2.2.2 k hlt
      obtain ⟨rfl, rfl⟩ : b = g' ∧ o = o' := by simpa using hao
      obtain ⟨c0, c1, c2⟩ := hx.kept HK.out (by simp)
      obtain ⟨x, hxe⟩ : ∃ x, x = L[k] := ⟨_, rfl⟩
      have HX : Hid (x = L[k]) := hxe
      rw [← hxe] at c0 c1 c2
      have hKa := (Kept.refl [] wr).alloc (.cells #[.string (str x.p), .bool x.g, .int .u64 x.d] 31)
      obtain ⟨d0, d1, d2⟩ := box3 wr x 31
      rw [Nat.zero_add] at d1 d2
      have hxp : x.p.length ≤ 1000000000000 := by rw [hxe]; exact HP.out _ (List.getElem_mem hlt)
      have cM := fun W => may_call W x hxp
      have cH := fun W (h : Kept [] wr W) => has_call W (some ⟨b, o, none⟩) k c (L.take k) x.p (((HS.out.kept HK.out (by simp)).kept h (by simp)).take hk)
      clear hx hxe hao hxp
      rcases hma : mayB x with _ | _
      · have HE : Hid (R = 1) := by
          show R = 1
          rw [HR.out]
          exact errC_bad fun h => by have := (h.2.2 k hlt).1; rw [← HX.out, hma] at this; cases this
        rw [hma] at cM
        clear hma cH
        go_wp2_with fail
        first
          | go_region_with (go_at_call 80; refine (cM _).mono ?_; rintro e w1 ⟨rfl, hKb⟩; have HK1 : Hid (Kept [] w w1) := (HK.out.trans hKa (by simp)).trans ((Kept.refl [] _).drew.trans hKb (by simp)) (by simp))
          | fail
        all_goals
          go_wp2_with fail
          go_ret
          exact ⟨by rw [HE.out]; rfl, HK1.out⟩
      · rw [hma] at cM
        rcases hha : ((L.take k).any fun y => decide (y.p = x.p)) with _ | _
        · have HE : Hid (∀ i (hi : i < L.length), i < k + 1 → mayB L[i] = true ∧ ∀ j (hj : j < i), L[j].p ≠ L[i].p) := fun i hi h => by
            by_cases e : i = k
            · subst e
              refine ⟨by rw [← HX.out]; exact hma, fun j hj => ?_⟩
              rw [← HX.out]
              exact any_take hha j (by omega) hj
            · exact HN.out i hi (by omega)
          rw [hha] at cH
          clear hma hha
          go_wp2_with fail
          go_region_held3 (fun w' => w'.cell? ⟨wr.heap.size, 0, none⟩ = some (.string (str x.p)) ∧ w'.cell? ⟨wr.heap.size, 1, none⟩ = some (.bool x.g) ∧ w'.cell? ⟨wr.heap.size, 2, none⟩ = some (.int .u64 x.d))
            (first | go_keep | exact ⟨hK1.cell d0 (by simp), hK1.cell d1 (by simp), hK1.cell d2 (by simp)⟩)
            (first
              | (go_at_call 80; refine (cM _).mono ?_; rintro e w1 ⟨rfl, hKb⟩; have hK1 : Kept [] (wr.alloc (.cells #[.string (str x.p), .bool x.g, .int .u64 x.d] 31)) w1 := (Kept.refl [] _).drew.trans hKb (by simp))
              | (go_at_call 81; refine (cH _ ?_).mono ?_; exact hKa.trans hK1 (by simp); rintro e w2 ⟨rfl, hKc⟩; replace hK1 := hK1.trans hKc (by simp)))
          have HK1 : Hid (Kept [] w w2) := (HK.out.trans hKa (by simp)).trans hK1 (by simp)
          clear hKa hKb hKc hK1 c0 c1 c2 d0 d1 d2 cM cH
          go_wp2_with fail
          go_roundw
          case rel => exact ⟨k + 1, by omega, by go_num, HK1, HE⟩
          case measure => simp [intOf]; omega
        · have HE : Hid (R = 1) := by
            show R = 1
            rw [HR.out]
            refine errC_bad fun h => ?_
            obtain ⟨i, hi, hik, e⟩ := take_any hha
            rw [HX.out] at e
            exact (h.2.2 k hlt).2 i hik e
          rw [hha] at cH
          clear hma hha
          go_wp2_with fail
          go_region_held3 (fun w' => w'.cell? ⟨wr.heap.size, 0, none⟩ = some (.string (str x.p)) ∧ w'.cell? ⟨wr.heap.size, 1, none⟩ = some (.bool x.g) ∧ w'.cell? ⟨wr.heap.size, 2, none⟩ = some (.int .u64 x.d))
            (first | go_keep | exact ⟨hK1.cell d0 (by simp), hK1.cell d1 (by simp), hK1.cell d2 (by simp)⟩)
            (first
              | (go_at_call 80; refine (cM _).mono ?_; rintro e w1 ⟨rfl, hKb⟩; have hK1 : Kept [] (wr.alloc (.cells #[.string (str x.p), .bool x.g, .int .u64 x.d] 31)) w1 := (Kept.refl [] _).drew.trans hKb (by simp))
              | (go_at_call 81; refine (cH _ ?_).mono ?_; exact hKa.trans hK1 (by simp); rintro e w2 ⟨rfl, hKc⟩; replace hK1 := hK1.trans hKc (by simp)))
          have HK1 : Hid (Kept [] w w2) := (HK.out.trans hKa (by simp)).trans hK1 (by simp)
          clear hKa hKb hKc hK1 c0 c1 c2 d0 d1 d2 cM cH
          go_wp2_with fail
          go_ret
          exact ⟨by rw [HE.out]; rfl, HK1.out⟩
    · have hlt' : ¬ (k : Int) < L.length := by omega
      have HE : Hid (R = 0) := by
        show R = 0
        rw [HR.out]
        exact errC_ok ⟨by omega, by omega, fun i hi => HN.out i hi (by omega)⟩
      go_wp2_with fail
      go_ret
      exact ⟨by rw [HE.out]; rfl, HK.out⟩

end Go.Proofs.YtfoghemiaidnhaaGreat
