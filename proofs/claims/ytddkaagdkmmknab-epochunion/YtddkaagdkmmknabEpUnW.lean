/-
  EpochUnion: the walk.
-/
import Derived.Test.YtddkaagdkmmknabEpAwake
import Derived.Test.YtddkaagdkmmknabEpUni
import Derived.Test.YtddkaagdkmmknabEpCut
import Derived.Test.YtddkaagdkmmknabEpUnP0
import Derived.Test.YtddkaagdkmmknabEpArgD
import Derived.Laws.Bits128
namespace Go.Proofs.Ytddkaagdkmmknab
open Go.RowKit

theorem i64_and63 (n : Int) : bits .and .i64 n 63 = n % 64 := by
  have h63 : (BitVec.ofInt 64 63).toNat = 2 ^ 6 - 1 := by decide
  have key : (BitVec.ofInt 64 n &&& BitVec.ofInt 64 63).toNat = (n % ((2 ^ 64 : Nat) : Int)).toNat % 2 ^ 6 := by
    rw [BitVec.toNat_and, BitVec.toNat_ofInt, h63, Nat.and_two_pow_sub_one_eq_mod]
  show IntKind.i64.wrap ((BitVec.ofInt 64 n &&& BitVec.ofInt 64 63).toNat : Nat) = n % 64
  rw [key, IntKind.wrap_i64]
  omega

/-- Fifteen marks lie in a block. -/
def BitsAt (w : World) (b : Nat) (S : Nat → Bool) : Prop := w.heap[b]? = some (.cells (setC S).toArray 4 (0, 0))

theorem BitsAt.cell {w : World} {b : Nat} {S : Nat → Bool} (h : BitsAt w b S) {k : Nat} (hk : k < 15) : w.cell? ⟨b, k, none⟩ = some (.bool (S k)) :=
  cell_inC h (by simpa using setC_get S hk)

theorem BitsAt.set {w : World} {b : Nat} {S : Nat → Bool} (h : BitsAt w b S) {q : Nat} (v : Bool) (hq : q < 15) : BitsAt (w.setCell ⟨b, q, none⟩ (.bool v)) b (updB S q v) := by
  unfold BitsAt
  rw [heap_setCell_same _ _ q _ _ _ h]
  congr 2
  apply Array.ext_getElem?
  intro i
  rw [Array.getElem?_setIfInBounds]
  by_cases hi : i < 15
  · have h1 : (setC (updB S q v)).toArray[i]? = some (.bool (updB S q v i)) := by simpa using setC_get _ hi
    have h2 : (setC S).toArray[i]? = some (.bool (S i)) := by simpa using setC_get S hi
    rw [h1, h2]
    unfold updB
    by_cases e : q = i
    · subst e; simp [setC_len, hq]
    · have e' : ¬ i = q := fun h => e h.symm
      simp [e, e']
  · have h1 : (setC (updB S q v)).toArray[i]? = none := by simp [setC_len]; omega
    have h2 : (setC S).toArray[i]? = none := by simp [setC_len]; omega
    rw [h1, h2]
    by_cases e : q = i
    · omega
    · simp [e]

theorem BitsAt.turn {w : World} {b : Nat} {S : Nat → Bool} (h : BitsAt w b S) (q : Nat) (v : Value) : Tn b [4] w (w.setCell ⟨b, q, none⟩ v) :=
  ⟨[b], (Kept.refl [b] w).setCell (by simp) v, by simp, fun k hk cur t mk hh => by
    obtain rfl : k = b := by simpa using hk
    rw [show w.heap[k]? = _ from h] at hh
    cases hh
    simp⟩

theorem RowI.sl' {B : Nat} {w : World} {a : Option Addr} {n c : Nat} {S : List Int} (h : RowI B w (.slice a n c) S) : SlI w a n c S := by
  obtain ⟨ao, c', e, h1⟩ := h.sl
  cases e
  exact h1

theorem chE_zero {L : List Ep} {z q : Int} {a : Bool} (h : chE 3 L z q a = 0) : 0 ≤ z := by
  unfold chE at h
  split at h
  · cases h
  · omega

/-- Between two deeds. -/
def UnI (w : World) (B0 p n : Nat) (c : Int) (iv lv : Value) (wr : World) : Prop := ∃ (i : Nat) (L : List Ep) (z : Int), iv = .int .i64 (i : Int) ∧ lv = .int .i64 z ∧ i ≤ n ∧ Hid (EpA B0 wr p 3 L) ∧ Hid (OkL L) ∧ Hid (FrL L z) ∧ Hid (L.length ≤ i + 1) ∧ (c ≤ z ∧ z ≤ 103) ∧ Hid (Kept [] w wr) ∧ Hid (B0 ≤ wr.heap.size)

/-- Between two slots. -/
def UsI (w5 : World) (bi : Nat) (M : List Ep) (c : Int) (N : Nat) (sv : Value) (wr : World) : Prop := ∃ j : Nat, sv = .int .i64 (c + j) ∧ j ≤ N ∧ Hid (BitsAt wr bi (seen M c j)) ∧ Hid (Tn bi [4] w5 wr)

/-- Between two members. -/
def UmI (wA : World) (bi : Nat) (S : Nat → Bool) (m : List Int) (kv : Value) (wr : World) : Prop := ∃ t : Nat, kv = .int .i64 (t : Int) ∧ t ≤ m.length ∧ Hid (BitsAt wr bi (marks S (m.take t))) ∧ Hid (Tn bi [4] wA wr)

/-- Between two marks. -/
def UcI (w9 : World) (S : Nat → Bool) (iv nv : Value) (wr : World) : Prop := ∃ i : Nat, iv = .int .i64 (i : Int) ∧ nv = .int .i64 (cntS S i : Int) ∧ i ≤ 15 ∧ Hid (Kept [] w9 wr)

set_option linter.unusedSimpArgs false in
set_option maxHeartbeats 16000000 in
set_option maxRecDepth 100000 in
theorem union_walk (w : World) (ao : Option Addr) (n c : Nat) (D : List Dd) (hD : SlD w ao n c D) (cut : Int) :
    Calls Try.prog 3 #[.slice ao n c, .int .i64 cut] w fun e w' => e = .returned (.bool true) ∧ Kept [] w w' := by
  have cW := awake_call w
  have hcc := hD.2.1
  have hmm := hD.2.2.1
  unfold maxLen at hmm
  have HD := hide hD
  have HL := hide hD.1
  clear hD
  have hmk : ∀ w : World, (Instr.makeSlice 34 (.int .i64 15) (.int .i64 15)).run Try.prog w = .ok (.slice (some ⟨w.heap.size, 0, none⟩) 15 15) (w.alloc (.cells #[.bool false, .bool false, .bool false, .bool false, .bool false, .bool false, .bool false, .bool false, .bool false, .bool false, .bool false, .bool false, .bool false, .bool false, .bool false] 4)) := fun _ => by kernel_rfl
  have hand := i64_and63 cut
  obtain ⟨ct, hct⟩ : ∃ ct, ct = cut % 64 := ⟨_, rfl⟩
  have hc0 : 0 ≤ ct ∧ ct ≤ 63 := by omega
  rw [← hct] at hand
  clear hct
  go_enter Try.func3, Try.ntmps3
  go_upto_region 3 with (go_at_call 4; refine cW.mono ?_; clear cW; rintro _ w0 ⟨rfl, hK0⟩)
  have HK0 := hide hK0
  clear hK0
  by_cases hn : 200 < n
  · have hn' : (200 : Int) < n := by omega
    go_wp2_with fail
    go_ret
    exact ⟨rfl, HK0.out⟩
  · have hn' : ¬ (200 : Int) < n := by omega
    have cN := newE_ok _ _ 3 3 [0, 1, 2] (SlI.lit w0 [0, 1, 2] 3 #[.int .i64 0, .int .i64 1, .int .i64 2] 3 rfl rfl (by omega)) 3 may012 (by omega)
    have HKl : Hid (Kept [] w (w0.alloc (.cells #[.int .i64 0, .int .i64 1, .int .i64 2] 3))) := HK0.out.alloc _
    go_wp2_with (go_at_call 5; refine cN.mono ?_; clear cN; rintro _ w1 ⟨p, rfl, hE1, hK1⟩
                 have HK1 : Hid (Kept [] w w1) := HKl.out.trans hK1 (by simp)
                 have HB1 := hide hK1.size
                 have HB := hide HKl.out.size
                 have HE1 := hide hE1
                 generalize (w0.alloc (.cells #[.int .i64 0, .int .i64 1, .int .i64 2] 3)).heap.size = B0 at *
                 clear hK1 hE1)
    go_loopw [8, 7] (fun iv lv wr => UnI w B0 p n ct iv lv wr) (fun iv _ _ => n - (intOf iv).toNat)
    case atStart => exact ⟨0, [⟨0, [0, 1, 2]⟩], ct, rfl, rfl, Nat.zero_le _, HE1, okL_new may012, (⟨⟨_, _, rfl, rfl⟩, fun x hx => by simp at hx; subst hx; exact hc0.1⟩ : FrL _ _), by simp [Hid], ⟨Int.le_refl _, by omega⟩, HK1, HB1⟩
    case round =>
      obtain ⟨i, L, z, rfl, rfl, hi, HE, HO, HF, HLn, hz, HK, HBr⟩ := hrel
      by_cases hlt : i < n
      · have hlt' : (i : Int) < n := by omega
        have hiD : i < D.length := by rw [HL.out]; exact hlt
        obtain ⟨g, o, he, f0, f1, f2, f3⟩ := HD.out.2.2.2.1 i hiD
        subst he
        generalize D[i] = d at *
        have e1 := HK.out.cell f1 (by simp)
        have e2 := HK.out.cell f2 (by simp)
        have e3 := HK.out.cell f3 (by simp)
        clear f0 hiD
        by_cases hz1 : d.z ≤ 100
        · have hd1 : decide (d.z ≤ 100) = true := by simpa using hz1
          have hl9 : L.length ≤ 1000000 := by have := HLn.out; omega
          have cC := changeE_call B0 wr.drew p 3 L (HE.out.kept (Kept.refl [] wr).drew) HO.out (by omega) (by omega) hl9 HBr.out d.z d.q d.a
          have HO2 := hide (okL_ch (al := 3) (by omega) HO.out d.z d.q d.a)
          have HL2 : Hid ((chL 3 L d.z d.q d.a).length ≤ i + 1 + 1) := by have h1 := ch_len 3 L d.z d.q d.a; have h2 := HLn.out; show _ ≤ _; omega
          unfold ChgP at cC
          clear hl9
          by_cases hch : chE 3 L d.z d.q d.a = 0
          · have HF2 := hide (frL_ch HF.out hch)
            have hz0 := chE_zero hch
            have hwr : IntKind.i64.wrap (d.z + 3) = d.z + 3 := IntWalk.i64_in _ (by omega)
            rw [hch] at cC
            generalize chL 3 L d.z d.q d.a = L9 at *
            clear hch
            go_wp2_with fail
            refine wp_region_held_drew (S := fun w' => w'.cell? ⟨g, o + i * 4 + 1, none⟩ = some (.int .i64 d.z) ∧ w'.cell? ⟨g, o + i * 4 + 2, none⟩ = some (.int .i64 d.q) ∧ w'.cell? ⟨g, o + i * 4 + 3, none⟩ = some (.bool d.a)) (by kernel_rfl) ⟨e1, e2, e3⟩ (fun hHeld => ?_)
            refine wpAnyH_take (i := 0) (v := ?_) rfl (by kernel_rfl) (by kernel_rfl) (by kernel_rfl) (fun _ _ _ h => h) (Or.inl ⟨by rfl, ?_⟩) hHeld ?_
            rotate_left
            · intro w9 hSw; (try dsimp only at hSw); go_simp; (try with_reducible rfl)
            try simp only [List.getElem_toArray, List.getElem_cons_succ, List.getElem_cons_zero, Act.put, List.setIfInBounds_toArray, List.set_cons_zero, List.set_cons_succ]
            refine wpAnyH_take (i := 1) (v := ?_) rfl (by kernel_rfl) (by kernel_rfl) (by kernel_rfl) (fun _ _ _ h => h) (Or.inl ⟨by rfl, ?_⟩) hHeld ?_
            rotate_left
            · intro w9 hSw; (try dsimp only at hSw); go_simp; (try with_reducible rfl)
            try simp only [List.getElem_toArray, List.getElem_cons_succ, List.getElem_cons_zero, Act.put, List.setIfInBounds_toArray, List.set_cons_zero, List.set_cons_succ]
            refine wpAnyH_take (i := 2) (v := ?_) rfl (by kernel_rfl) (by kernel_rfl) (by kernel_rfl) (fun _ _ _ h => h) (Or.inl ⟨by rfl, ?_⟩) hHeld ?_
            rotate_left
            · intro w9 hSw; (try dsimp only at hSw); go_simp; (try with_reducible rfl)
            try simp only [List.getElem_toArray, List.getElem_cons_succ, List.getElem_cons_zero, Act.put, List.setIfInBounds_toArray, List.set_cons_zero, List.set_cons_succ]
            refine wpAnyH_take (i := 3) (v := ?_) rfl (by kernel_rfl) (by kernel_rfl) (by kernel_rfl) (fun _ _ _ h => h) (Or.inl ⟨by rfl, ?_⟩) hHeld ?_
            rotate_left
            · intro w9 hSw; (try dsimp only at hSw); go_simp; (try with_reducible rfl)
            try simp only [List.getElem_toArray, List.getElem_cons_succ, List.getElem_cons_zero, Act.put, List.setIfInBounds_toArray, List.set_cons_zero, List.set_cons_succ]
            refine wpAnyH_take (i := 4) (v := ?_) rfl (by kernel_rfl) (by kernel_rfl) (by kernel_rfl) (fun _ _ _ h => h) (Or.inl ⟨by rfl, ?_⟩) hHeld ?_
            rotate_left
            · intro w9 hSw; (try dsimp only at hSw); go_simp; (try with_reducible rfl)
            try simp only [List.getElem_toArray, List.getElem_cons_succ, List.getElem_cons_zero, Act.put, List.setIfInBounds_toArray, List.set_cons_zero, List.set_cons_succ]
            refine wpAnyH_take (i := 5) (v := ?_) rfl (by kernel_rfl) (by kernel_rfl) (by kernel_rfl) (fun _ _ _ h => h) (Or.inl ⟨by rfl, ?_⟩) hHeld ?_
            rotate_left
            · intro w9 hSw; (try dsimp only at hSw); go_simp; (try with_reducible rfl)
            try simp only [List.getElem_toArray, List.getElem_cons_succ, List.getElem_cons_zero, Act.put, List.setIfInBounds_toArray, List.set_cons_zero, List.set_cons_succ]
            refine wpAnyH_take (i := 6) (v := ?_) rfl (by kernel_rfl) (by kernel_rfl) (by kernel_rfl) (fun _ _ _ h => h) (Or.inl ⟨by rfl, ?_⟩) hHeld ?_
            rotate_left
            · intro w9 hSw; (try dsimp only at hSw); go_simp; (try with_reducible rfl)
            try simp only [List.getElem_toArray, List.getElem_cons_succ, List.getElem_cons_zero, Act.put, List.setIfInBounds_toArray, List.set_cons_zero, List.set_cons_succ]
            refine wpAnyH_take (i := 7) (v := ?_) rfl (by kernel_rfl) (by kernel_rfl) (by kernel_rfl) (fun _ _ _ h => h) (Or.inl ⟨by rfl, ?_⟩) hHeld ?_
            rotate_left
            · intro w9 hSw; (try dsimp only at hSw); go_simp; (try with_reducible rfl)
            try simp only [List.getElem_toArray, List.getElem_cons_succ, List.getElem_cons_zero, Act.put, List.setIfInBounds_toArray, List.set_cons_zero, List.set_cons_succ]
            refine wpAnyH_take (i := 8) (v := ?_) rfl (by kernel_rfl) (by kernel_rfl) (by kernel_rfl) (fun _ _ _ h => h) (Or.inl ⟨by rfl, ?_⟩) hHeld ?_
            rotate_left
            · intro w9 hSw; (try dsimp only at hSw); go_simp; (try with_reducible rfl)
            try simp only [List.getElem_toArray, List.getElem_cons_succ, List.getElem_cons_zero, Act.put, List.setIfInBounds_toArray, List.set_cons_zero, List.set_cons_succ]
            refine wpAnyH_take (i := 9) (v := ?_) rfl (by kernel_rfl) (by kernel_rfl) (by kernel_rfl) (fun _ _ _ h => h) (Or.inl ⟨by rfl, ?_⟩) hHeld ?_
            rotate_left
            · intro w9 hSw; (try dsimp only at hSw); go_simp; (try with_reducible rfl)
            try simp only [List.getElem_toArray, List.getElem_cons_succ, List.getElem_cons_zero, Act.put, List.setIfInBounds_toArray, List.set_cons_zero, List.set_cons_succ]
            refine wpAnyH_take (i := 10) (v := ?_) rfl (by kernel_rfl) (by kernel_rfl) (by kernel_rfl) (fun _ _ _ h => h) (Or.inl ⟨by rfl, ?_⟩) hHeld ?_
            rotate_left
            · intro w9 hSw; (try dsimp only at hSw); go_simp; (try with_reducible rfl)
            try simp only [List.getElem_toArray, List.getElem_cons_succ, List.getElem_cons_zero, Act.put, List.setIfInBounds_toArray, List.set_cons_zero, List.set_cons_succ]
            refine wpAnyH_take (i := 11) (v := ?_) rfl (by kernel_rfl) (by kernel_rfl) (by kernel_rfl) (fun _ _ _ h => h) (Or.inl ⟨by rfl, ?_⟩) hHeld ?_
            rotate_left
            · intro w9 hSw; (try dsimp only at hSw); go_simp; (try with_reducible rfl)
            try simp only [List.getElem_toArray, List.getElem_cons_succ, List.getElem_cons_zero, Act.put, List.setIfInBounds_toArray, List.set_cons_zero, List.set_cons_succ]
            refine wpAnyH_take (i := 12) (v := ?_) rfl (by kernel_rfl) (by kernel_rfl) (by kernel_rfl) (fun _ _ _ h => h) (Or.inl ⟨by rfl, ?_⟩) hHeld ?_
            rotate_left
            · intro w9 hSw; (try dsimp only at hSw); go_simp; (try with_reducible rfl)
            try simp only [List.getElem_toArray, List.getElem_cons_succ, List.getElem_cons_zero, Act.put, List.setIfInBounds_toArray, List.set_cons_zero, List.set_cons_succ]
            refine wpAnyH_take (i := 13) (v := ?_) rfl (by kernel_rfl) (by kernel_rfl) (by kernel_rfl) (fun _ _ _ h => h) (Or.inl ⟨by rfl, ?_⟩) hHeld ?_
            rotate_left
            · intro w9 hSw; (try dsimp only at hSw); go_simp; (try with_reducible rfl)
            try simp only [List.getElem_toArray, List.getElem_cons_succ, List.getElem_cons_zero, Act.put, List.setIfInBounds_toArray, List.set_cons_zero, List.set_cons_succ]
            refine wpAnyH_take (i := 14) (v := ?_) rfl (by kernel_rfl) (by kernel_rfl) (by kernel_rfl) (fun _ _ _ h => h) (Or.inl ⟨by rfl, ?_⟩) hHeld ?_
            rotate_left
            · intro w9 hSw; (try dsimp only at hSw); go_simp; (try with_reducible rfl)
            try simp only [List.getElem_toArray, List.getElem_cons_succ, List.getElem_cons_zero, Act.put, List.setIfInBounds_toArray, List.set_cons_zero, List.set_cons_succ]
            refine wpAnyH_take (i := 15) (v := ?_) rfl (by kernel_rfl) (by kernel_rfl) (by kernel_rfl) (fun _ _ _ h => h) (Or.inl ⟨by rfl, ?_⟩) hHeld ?_
            rotate_left
            · intro w9 hSw; (try dsimp only at hSw); go_simp; (try with_reducible rfl)
            try simp only [List.getElem_toArray, List.getElem_cons_succ, List.getElem_cons_zero, Act.put, List.setIfInBounds_toArray, List.set_cons_zero, List.set_cons_succ]
            refine wpAnyH_take (i := 16) (v := ?_) rfl (by kernel_rfl) (by kernel_rfl) (by kernel_rfl) (fun _ _ _ h => h) (Or.inl ⟨by rfl, ?_⟩) hHeld ?_
            rotate_left
            · intro w9 hSw; (try dsimp only at hSw); go_simp; (try with_reducible rfl)
            try simp only [List.getElem_toArray, List.getElem_cons_succ, List.getElem_cons_zero, Act.put, List.setIfInBounds_toArray, List.set_cons_zero, List.set_cons_succ]
            refine wpAnyH_take (i := 17) (v := ?_) rfl (by kernel_rfl) (by kernel_rfl) (by kernel_rfl) (fun _ _ _ h => h) (Or.inl ⟨by rfl, ?_⟩) hHeld ?_
            rotate_left
            · intro w9 hSw; (try dsimp only at hSw); go_simp; (try with_reducible rfl)
            try simp only [List.getElem_toArray, List.getElem_cons_succ, List.getElem_cons_zero, Act.put, List.setIfInBounds_toArray, List.set_cons_zero, List.set_cons_succ]
            refine wpAnyH_take (i := 18) (v := ?_) rfl (by kernel_rfl) (by kernel_rfl) (by kernel_rfl) (fun _ _ _ h => h) (Or.inl ⟨by rfl, ?_⟩) hHeld ?_
            rotate_left
            · intro w9 hSw; (try dsimp only at hSw); go_simp; (try with_reducible rfl)
            try simp only [List.getElem_toArray, List.getElem_cons_succ, List.getElem_cons_zero, Act.put, List.setIfInBounds_toArray, List.set_cons_zero, List.set_cons_succ]
            refine wpAnyH_take (i := 19) (v := ?_) rfl (by kernel_rfl) (by kernel_rfl) (by kernel_rfl) (fun _ _ _ h => h) (Or.inl ⟨by rfl, ?_⟩) hHeld ?_
            rotate_left
            · intro w9 hSw; (try dsimp only at hSw); go_simp; (try with_reducible rfl)
            try simp only [List.getElem_toArray, List.getElem_cons_succ, List.getElem_cons_zero, Act.put, List.setIfInBounds_toArray, List.set_cons_zero, List.set_cons_succ]
            refine wpAnyH_take (i := 20) (v := ?_) rfl (by kernel_rfl) (by kernel_rfl) (by kernel_rfl) (fun _ _ _ h => h) (Or.inl ⟨by rfl, ?_⟩) hHeld ?_
            rotate_left
            · intro w9 hSw; (try dsimp only at hSw); go_simp; (try with_reducible rfl)
            try simp only [List.getElem_toArray, List.getElem_cons_succ, List.getElem_cons_zero, Act.put, List.setIfInBounds_toArray, List.set_cons_zero, List.set_cons_succ]
            refine wpAnyH_take (i := 21) (v := ?_) rfl (by kernel_rfl) (by kernel_rfl) (by kernel_rfl) (fun _ _ _ h => h) (Or.inl ⟨by rfl, ?_⟩) hHeld ?_
            rotate_left
            · intro w9 hSw; (try dsimp only at hSw); go_simp; (try with_reducible rfl)
            try simp only [List.getElem_toArray, List.getElem_cons_succ, List.getElem_cons_zero, Act.put, List.setIfInBounds_toArray, List.set_cons_zero, List.set_cons_succ]
            refine wpAnyH_take (i := 22) (v := ?_) rfl (by kernel_rfl) (by kernel_rfl) (by kernel_rfl) (fun _ _ _ h => h) (Or.inl ⟨by rfl, ?_⟩) hHeld ?_
            rotate_left
            · intro w9 hSw; (try dsimp only at hSw); go_simp; (try with_reducible rfl)
            try simp only [List.getElem_toArray, List.getElem_cons_succ, List.getElem_cons_zero, Act.put, List.setIfInBounds_toArray, List.set_cons_zero, List.set_cons_succ]
            refine wpAnyH_ready (rs := [23]) (by kernel_rfl) (by simp) (AllReadyH.cons rfl (fun K0 hK0 => ?_) AllReadyH.nil)
            go_simp
            refine cC.mono ?_
            rintro _ w3 ⟨rfl, hE3, hT3a⟩
            have HT3 : Hid (Tn B0 [46, 43] wr w3) := (Tn.kept (Kept.refl [] wr).drew).trans hT3a
            have HE3 := hide hE3
            have HK3 : Hid (Kept [] w w3) := Tn.low HK.out HT3.out HB.out
            have k1 := HK3.out.cell f1 (by simp)
            clear hE3 hT3a cC
            go_wp2_with fail
            refine hK0.out _ _ ⟨k1, HK3.out.cell f2 (by simp), HK3.out.cell f3 (by simp)⟩ (fun hHeld => ?_)
            clear hK0 K0
            try simp only [List.getElem_toArray, List.getElem_cons_succ, List.getElem_cons_zero, Act.put, List.setIfInBounds_toArray, List.set_cons_zero, List.set_cons_succ]
            refine wpAnyH_take (i := 24) (v := ?_) rfl (by kernel_rfl) (by kernel_rfl) (by kernel_rfl) (fun _ _ _ h => h) (Or.inl ⟨by rfl, ?_⟩) hHeld ?_
            rotate_left
            · intro w9 hSw; (try dsimp only at hSw); go_simp; (try with_reducible rfl)
            try simp only [List.getElem_toArray, List.getElem_cons_succ, List.getElem_cons_zero, Act.put, List.setIfInBounds_toArray, List.set_cons_zero, List.set_cons_succ]
            refine wpAnyH_take (i := 25) (v := ?_) rfl (by kernel_rfl) (by kernel_rfl) (by kernel_rfl) (fun _ _ _ h => h) (Or.inl ⟨by rfl, ?_⟩) hHeld ?_
            rotate_left
            · intro w9 hSw; (try dsimp only at hSw); go_simp; (try with_reducible rfl)
            try simp only [List.getElem_toArray, List.getElem_cons_succ, List.getElem_cons_zero, Act.put, List.setIfInBounds_toArray, List.set_cons_zero, List.set_cons_succ]
            try simp only [List.getElem_toArray, List.getElem_cons_succ, List.getElem_cons_zero, Act.put, List.setIfInBounds_toArray, List.set_cons_zero, List.set_cons_succ]
            refine wpAnyH_done (by kernel_rfl) ?_ _
            clear hHeld
            go_wp2_with fail
            go_roundw
            case rel => exact ⟨i + 1, L9, max z (d.z + 3), by go_num, by simp, by omega, HE3, HO2, HF2, HL2, by omega, HK3, Nat.le_trans HBr.out HT3.out.size⟩
            case measure => simp [intOf]; omega
          · have HF2 := hide (frL_no HF.out hch)
            generalize chL 3 L d.z d.q d.a = L9 at *
            generalize chE 3 L d.z d.q d.a = er at *
            have hch' : (er == 0) = false := by simpa using hch
            go_wp2_with fail
            refine wp_region_held_drew (S := fun w' => w'.cell? ⟨g, o + i * 4 + 1, none⟩ = some (.int .i64 d.z) ∧ w'.cell? ⟨g, o + i * 4 + 2, none⟩ = some (.int .i64 d.q) ∧ w'.cell? ⟨g, o + i * 4 + 3, none⟩ = some (.bool d.a)) (by kernel_rfl) ⟨e1, e2, e3⟩ (fun hHeld => ?_)
            refine wpAnyH_take (i := 0) (v := ?_) rfl (by kernel_rfl) (by kernel_rfl) (by kernel_rfl) (fun _ _ _ h => h) (Or.inl ⟨by rfl, ?_⟩) hHeld ?_
            rotate_left
            · intro w9 hSw; (try dsimp only at hSw); go_simp; (try with_reducible rfl)
            try simp only [List.getElem_toArray, List.getElem_cons_succ, List.getElem_cons_zero, Act.put, List.setIfInBounds_toArray, List.set_cons_zero, List.set_cons_succ]
            refine wpAnyH_take (i := 1) (v := ?_) rfl (by kernel_rfl) (by kernel_rfl) (by kernel_rfl) (fun _ _ _ h => h) (Or.inl ⟨by rfl, ?_⟩) hHeld ?_
            rotate_left
            · intro w9 hSw; (try dsimp only at hSw); go_simp; (try with_reducible rfl)
            try simp only [List.getElem_toArray, List.getElem_cons_succ, List.getElem_cons_zero, Act.put, List.setIfInBounds_toArray, List.set_cons_zero, List.set_cons_succ]
            refine wpAnyH_take (i := 2) (v := ?_) rfl (by kernel_rfl) (by kernel_rfl) (by kernel_rfl) (fun _ _ _ h => h) (Or.inl ⟨by rfl, ?_⟩) hHeld ?_
            rotate_left
            · intro w9 hSw; (try dsimp only at hSw); go_simp; (try with_reducible rfl)
            try simp only [List.getElem_toArray, List.getElem_cons_succ, List.getElem_cons_zero, Act.put, List.setIfInBounds_toArray, List.set_cons_zero, List.set_cons_succ]
            refine wpAnyH_take (i := 3) (v := ?_) rfl (by kernel_rfl) (by kernel_rfl) (by kernel_rfl) (fun _ _ _ h => h) (Or.inl ⟨by rfl, ?_⟩) hHeld ?_
            rotate_left
            · intro w9 hSw; (try dsimp only at hSw); go_simp; (try with_reducible rfl)
            try simp only [List.getElem_toArray, List.getElem_cons_succ, List.getElem_cons_zero, Act.put, List.setIfInBounds_toArray, List.set_cons_zero, List.set_cons_succ]
            refine wpAnyH_take (i := 4) (v := ?_) rfl (by kernel_rfl) (by kernel_rfl) (by kernel_rfl) (fun _ _ _ h => h) (Or.inl ⟨by rfl, ?_⟩) hHeld ?_
            rotate_left
            · intro w9 hSw; (try dsimp only at hSw); go_simp; (try with_reducible rfl)
            try simp only [List.getElem_toArray, List.getElem_cons_succ, List.getElem_cons_zero, Act.put, List.setIfInBounds_toArray, List.set_cons_zero, List.set_cons_succ]
            refine wpAnyH_take (i := 5) (v := ?_) rfl (by kernel_rfl) (by kernel_rfl) (by kernel_rfl) (fun _ _ _ h => h) (Or.inl ⟨by rfl, ?_⟩) hHeld ?_
            rotate_left
            · intro w9 hSw; (try dsimp only at hSw); go_simp; (try with_reducible rfl)
            try simp only [List.getElem_toArray, List.getElem_cons_succ, List.getElem_cons_zero, Act.put, List.setIfInBounds_toArray, List.set_cons_zero, List.set_cons_succ]
            refine wpAnyH_take (i := 6) (v := ?_) rfl (by kernel_rfl) (by kernel_rfl) (by kernel_rfl) (fun _ _ _ h => h) (Or.inl ⟨by rfl, ?_⟩) hHeld ?_
            rotate_left
            · intro w9 hSw; (try dsimp only at hSw); go_simp; (try with_reducible rfl)
            try simp only [List.getElem_toArray, List.getElem_cons_succ, List.getElem_cons_zero, Act.put, List.setIfInBounds_toArray, List.set_cons_zero, List.set_cons_succ]
            refine wpAnyH_take (i := 7) (v := ?_) rfl (by kernel_rfl) (by kernel_rfl) (by kernel_rfl) (fun _ _ _ h => h) (Or.inl ⟨by rfl, ?_⟩) hHeld ?_
            rotate_left
            · intro w9 hSw; (try dsimp only at hSw); go_simp; (try with_reducible rfl)
            try simp only [List.getElem_toArray, List.getElem_cons_succ, List.getElem_cons_zero, Act.put, List.setIfInBounds_toArray, List.set_cons_zero, List.set_cons_succ]
            refine wpAnyH_take (i := 8) (v := ?_) rfl (by kernel_rfl) (by kernel_rfl) (by kernel_rfl) (fun _ _ _ h => h) (Or.inl ⟨by rfl, ?_⟩) hHeld ?_
            rotate_left
            · intro w9 hSw; (try dsimp only at hSw); go_simp; (try with_reducible rfl)
            try simp only [List.getElem_toArray, List.getElem_cons_succ, List.getElem_cons_zero, Act.put, List.setIfInBounds_toArray, List.set_cons_zero, List.set_cons_succ]
            refine wpAnyH_take (i := 9) (v := ?_) rfl (by kernel_rfl) (by kernel_rfl) (by kernel_rfl) (fun _ _ _ h => h) (Or.inl ⟨by rfl, ?_⟩) hHeld ?_
            rotate_left
            · intro w9 hSw; (try dsimp only at hSw); go_simp; (try with_reducible rfl)
            try simp only [List.getElem_toArray, List.getElem_cons_succ, List.getElem_cons_zero, Act.put, List.setIfInBounds_toArray, List.set_cons_zero, List.set_cons_succ]
            refine wpAnyH_take (i := 10) (v := ?_) rfl (by kernel_rfl) (by kernel_rfl) (by kernel_rfl) (fun _ _ _ h => h) (Or.inl ⟨by rfl, ?_⟩) hHeld ?_
            rotate_left
            · intro w9 hSw; (try dsimp only at hSw); go_simp; (try with_reducible rfl)
            try simp only [List.getElem_toArray, List.getElem_cons_succ, List.getElem_cons_zero, Act.put, List.setIfInBounds_toArray, List.set_cons_zero, List.set_cons_succ]
            refine wpAnyH_take (i := 11) (v := ?_) rfl (by kernel_rfl) (by kernel_rfl) (by kernel_rfl) (fun _ _ _ h => h) (Or.inl ⟨by rfl, ?_⟩) hHeld ?_
            rotate_left
            · intro w9 hSw; (try dsimp only at hSw); go_simp; (try with_reducible rfl)
            try simp only [List.getElem_toArray, List.getElem_cons_succ, List.getElem_cons_zero, Act.put, List.setIfInBounds_toArray, List.set_cons_zero, List.set_cons_succ]
            refine wpAnyH_take (i := 12) (v := ?_) rfl (by kernel_rfl) (by kernel_rfl) (by kernel_rfl) (fun _ _ _ h => h) (Or.inl ⟨by rfl, ?_⟩) hHeld ?_
            rotate_left
            · intro w9 hSw; (try dsimp only at hSw); go_simp; (try with_reducible rfl)
            try simp only [List.getElem_toArray, List.getElem_cons_succ, List.getElem_cons_zero, Act.put, List.setIfInBounds_toArray, List.set_cons_zero, List.set_cons_succ]
            refine wpAnyH_take (i := 13) (v := ?_) rfl (by kernel_rfl) (by kernel_rfl) (by kernel_rfl) (fun _ _ _ h => h) (Or.inl ⟨by rfl, ?_⟩) hHeld ?_
            rotate_left
            · intro w9 hSw; (try dsimp only at hSw); go_simp; (try with_reducible rfl)
            try simp only [List.getElem_toArray, List.getElem_cons_succ, List.getElem_cons_zero, Act.put, List.setIfInBounds_toArray, List.set_cons_zero, List.set_cons_succ]
            refine wpAnyH_take (i := 14) (v := ?_) rfl (by kernel_rfl) (by kernel_rfl) (by kernel_rfl) (fun _ _ _ h => h) (Or.inl ⟨by rfl, ?_⟩) hHeld ?_
            rotate_left
            · intro w9 hSw; (try dsimp only at hSw); go_simp; (try with_reducible rfl)
            try simp only [List.getElem_toArray, List.getElem_cons_succ, List.getElem_cons_zero, Act.put, List.setIfInBounds_toArray, List.set_cons_zero, List.set_cons_succ]
            refine wpAnyH_take (i := 15) (v := ?_) rfl (by kernel_rfl) (by kernel_rfl) (by kernel_rfl) (fun _ _ _ h => h) (Or.inl ⟨by rfl, ?_⟩) hHeld ?_
            rotate_left
            · intro w9 hSw; (try dsimp only at hSw); go_simp; (try with_reducible rfl)
            try simp only [List.getElem_toArray, List.getElem_cons_succ, List.getElem_cons_zero, Act.put, List.setIfInBounds_toArray, List.set_cons_zero, List.set_cons_succ]
            refine wpAnyH_take (i := 16) (v := ?_) rfl (by kernel_rfl) (by kernel_rfl) (by kernel_rfl) (fun _ _ _ h => h) (Or.inl ⟨by rfl, ?_⟩) hHeld ?_
            rotate_left
            · intro w9 hSw; (try dsimp only at hSw); go_simp; (try with_reducible rfl)
            try simp only [List.getElem_toArray, List.getElem_cons_succ, List.getElem_cons_zero, Act.put, List.setIfInBounds_toArray, List.set_cons_zero, List.set_cons_succ]
            refine wpAnyH_take (i := 17) (v := ?_) rfl (by kernel_rfl) (by kernel_rfl) (by kernel_rfl) (fun _ _ _ h => h) (Or.inl ⟨by rfl, ?_⟩) hHeld ?_
            rotate_left
            · intro w9 hSw; (try dsimp only at hSw); go_simp; (try with_reducible rfl)
            try simp only [List.getElem_toArray, List.getElem_cons_succ, List.getElem_cons_zero, Act.put, List.setIfInBounds_toArray, List.set_cons_zero, List.set_cons_succ]
            refine wpAnyH_take (i := 18) (v := ?_) rfl (by kernel_rfl) (by kernel_rfl) (by kernel_rfl) (fun _ _ _ h => h) (Or.inl ⟨by rfl, ?_⟩) hHeld ?_
            rotate_left
            · intro w9 hSw; (try dsimp only at hSw); go_simp; (try with_reducible rfl)
            try simp only [List.getElem_toArray, List.getElem_cons_succ, List.getElem_cons_zero, Act.put, List.setIfInBounds_toArray, List.set_cons_zero, List.set_cons_succ]
            refine wpAnyH_take (i := 19) (v := ?_) rfl (by kernel_rfl) (by kernel_rfl) (by kernel_rfl) (fun _ _ _ h => h) (Or.inl ⟨by rfl, ?_⟩) hHeld ?_
            rotate_left
            · intro w9 hSw; (try dsimp only at hSw); go_simp; (try with_reducible rfl)
            try simp only [List.getElem_toArray, List.getElem_cons_succ, List.getElem_cons_zero, Act.put, List.setIfInBounds_toArray, List.set_cons_zero, List.set_cons_succ]
            refine wpAnyH_take (i := 20) (v := ?_) rfl (by kernel_rfl) (by kernel_rfl) (by kernel_rfl) (fun _ _ _ h => h) (Or.inl ⟨by rfl, ?_⟩) hHeld ?_
            rotate_left
            · intro w9 hSw; (try dsimp only at hSw); go_simp; (try with_reducible rfl)
            try simp only [List.getElem_toArray, List.getElem_cons_succ, List.getElem_cons_zero, Act.put, List.setIfInBounds_toArray, List.set_cons_zero, List.set_cons_succ]
            refine wpAnyH_take (i := 21) (v := ?_) rfl (by kernel_rfl) (by kernel_rfl) (by kernel_rfl) (fun _ _ _ h => h) (Or.inl ⟨by rfl, ?_⟩) hHeld ?_
            rotate_left
            · intro w9 hSw; (try dsimp only at hSw); go_simp; (try with_reducible rfl)
            try simp only [List.getElem_toArray, List.getElem_cons_succ, List.getElem_cons_zero, Act.put, List.setIfInBounds_toArray, List.set_cons_zero, List.set_cons_succ]
            refine wpAnyH_take (i := 22) (v := ?_) rfl (by kernel_rfl) (by kernel_rfl) (by kernel_rfl) (fun _ _ _ h => h) (Or.inl ⟨by rfl, ?_⟩) hHeld ?_
            rotate_left
            · intro w9 hSw; (try dsimp only at hSw); go_simp; (try with_reducible rfl)
            try simp only [List.getElem_toArray, List.getElem_cons_succ, List.getElem_cons_zero, Act.put, List.setIfInBounds_toArray, List.set_cons_zero, List.set_cons_succ]
            refine wpAnyH_ready (rs := [23]) (by kernel_rfl) (by simp) (AllReadyH.cons rfl (fun K0 hK0 => ?_) AllReadyH.nil)
            go_simp
            refine cC.mono ?_
            rintro _ w3 ⟨rfl, hE3, hT3a⟩
            have HT3 : Hid (Tn B0 [46, 43] wr w3) := (Tn.kept (Kept.refl [] wr).drew).trans hT3a
            have HE3 := hide hE3
            have HK3 : Hid (Kept [] w w3) := Tn.low HK.out HT3.out HB.out
            have k1 := HK3.out.cell f1 (by simp)
            clear hE3 hT3a cC
            go_wp2_with fail
            refine hK0.out _ _ ⟨k1, HK3.out.cell f2 (by simp), HK3.out.cell f3 (by simp)⟩ (fun hHeld => ?_)
            clear hK0 K0
            try simp only [List.getElem_toArray, List.getElem_cons_succ, List.getElem_cons_zero, Act.put, List.setIfInBounds_toArray, List.set_cons_zero, List.set_cons_succ]
            refine wpAnyH_take (i := 24) (v := ?_) rfl (by kernel_rfl) (by kernel_rfl) (by kernel_rfl) (fun _ _ _ h => h) (Or.inl ⟨by rfl, ?_⟩) hHeld ?_
            rotate_left
            · intro w9 hSw; (try dsimp only at hSw); go_simp; (try with_reducible rfl)
            try simp only [List.getElem_toArray, List.getElem_cons_succ, List.getElem_cons_zero, Act.put, List.setIfInBounds_toArray, List.set_cons_zero, List.set_cons_succ]
            refine wpAnyH_take (i := 25) (v := ?_) rfl (by kernel_rfl) (by kernel_rfl) (by kernel_rfl) (fun _ _ _ h => h) (Or.inl ⟨by rfl, ?_⟩) hHeld ?_
            rotate_left
            · intro w9 hSw; (try dsimp only at hSw); go_simp; (try with_reducible rfl)
            try simp only [List.getElem_toArray, List.getElem_cons_succ, List.getElem_cons_zero, Act.put, List.setIfInBounds_toArray, List.set_cons_zero, List.set_cons_succ]
            try simp only [List.getElem_toArray, List.getElem_cons_succ, List.getElem_cons_zero, Act.put, List.setIfInBounds_toArray, List.set_cons_zero, List.set_cons_succ]
            refine wpAnyH_done (by kernel_rfl) ?_ _
            clear hHeld
            go_wp2_with fail
            go_roundw
            case rel => exact ⟨i + 1, L9, z, by go_num, rfl, by omega, HE3, HO2, HF2, HL2, hz, HK3, Nat.le_trans HBr.out HT3.out.size⟩
            case measure => simp [intOf]; omega
        · have hd1 : decide (d.z ≤ 100) = false := by simpa using hz1
          have HK2 : Hid (Kept [] w wr.drew) := HK.out.drew
          go_wp2_with fail
          refine wp_region_held_drew (S := fun w' => w'.cell? ⟨g, o + i * 4 + 1, none⟩ = some (.int .i64 d.z) ∧ w'.cell? ⟨g, o + i * 4 + 2, none⟩ = some (.int .i64 d.q) ∧ w'.cell? ⟨g, o + i * 4 + 3, none⟩ = some (.bool d.a)) (by kernel_rfl) ⟨e1, e2, e3⟩ (fun hHeld => ?_)
          refine wpAnyH_take (i := 0) (v := ?_) rfl (by kernel_rfl) (by kernel_rfl) (by kernel_rfl) (fun _ _ _ h => h) (Or.inl ⟨by rfl, ?_⟩) hHeld ?_
          rotate_left
          · intro w9 hSw; (try dsimp only at hSw); go_simp; (try with_reducible rfl)
          try simp only [List.getElem_toArray, List.getElem_cons_succ, List.getElem_cons_zero, Act.put, List.setIfInBounds_toArray, List.set_cons_zero, List.set_cons_succ]
          refine wpAnyH_take (i := 1) (v := ?_) rfl (by kernel_rfl) (by kernel_rfl) (by kernel_rfl) (fun _ _ _ h => h) (Or.inl ⟨by rfl, ?_⟩) hHeld ?_
          rotate_left
          · intro w9 hSw; (try dsimp only at hSw); go_simp; (try with_reducible rfl)
          try simp only [List.getElem_toArray, List.getElem_cons_succ, List.getElem_cons_zero, Act.put, List.setIfInBounds_toArray, List.set_cons_zero, List.set_cons_succ]
          refine wpAnyH_take (i := 2) (v := ?_) rfl (by kernel_rfl) (by kernel_rfl) (by kernel_rfl) (fun _ _ _ h => h) (Or.inl ⟨by rfl, ?_⟩) hHeld ?_
          rotate_left
          · intro w9 hSw; (try dsimp only at hSw); go_simp; (try with_reducible rfl)
          try simp only [List.getElem_toArray, List.getElem_cons_succ, List.getElem_cons_zero, Act.put, List.setIfInBounds_toArray, List.set_cons_zero, List.set_cons_succ]
          refine wpAnyH_take (i := 3) (v := ?_) rfl (by kernel_rfl) (by kernel_rfl) (by kernel_rfl) (fun _ _ _ h => h) (Or.inl ⟨by rfl, ?_⟩) hHeld ?_
          rotate_left
          · intro w9 hSw; (try dsimp only at hSw); go_simp; (try with_reducible rfl)
          try simp only [List.getElem_toArray, List.getElem_cons_succ, List.getElem_cons_zero, Act.put, List.setIfInBounds_toArray, List.set_cons_zero, List.set_cons_succ]
          refine wpAnyH_take (i := 4) (v := ?_) rfl (by kernel_rfl) (by kernel_rfl) (by kernel_rfl) (fun _ _ _ h => h) (Or.inl ⟨by rfl, ?_⟩) hHeld ?_
          rotate_left
          · intro w9 hSw; (try dsimp only at hSw); go_simp; (try with_reducible rfl)
          try simp only [List.getElem_toArray, List.getElem_cons_succ, List.getElem_cons_zero, Act.put, List.setIfInBounds_toArray, List.set_cons_zero, List.set_cons_succ]
          refine wpAnyH_take (i := 5) (v := ?_) rfl (by kernel_rfl) (by kernel_rfl) (by kernel_rfl) (fun _ _ _ h => h) (Or.inl ⟨by rfl, ?_⟩) hHeld ?_
          rotate_left
          · intro w9 hSw; (try dsimp only at hSw); go_simp; (try with_reducible rfl)
          try simp only [List.getElem_toArray, List.getElem_cons_succ, List.getElem_cons_zero, Act.put, List.setIfInBounds_toArray, List.set_cons_zero, List.set_cons_succ]
          refine wpAnyH_take (i := 6) (v := ?_) rfl (by kernel_rfl) (by kernel_rfl) (by kernel_rfl) (fun _ _ _ h => h) (Or.inl ⟨by rfl, ?_⟩) hHeld ?_
          rotate_left
          · intro w9 hSw; (try dsimp only at hSw); go_simp; (try with_reducible rfl)
          try simp only [List.getElem_toArray, List.getElem_cons_succ, List.getElem_cons_zero, Act.put, List.setIfInBounds_toArray, List.set_cons_zero, List.set_cons_succ]
          refine wpAnyH_take (i := 7) (v := undef) rfl (by kernel_rfl) (by kernel_rfl) (by kernel_rfl) (fun _ _ _ h => h) (Or.inr ⟨by rfl, rfl⟩) hHeld ?_
          try simp only [List.getElem_toArray, List.getElem_cons_succ, List.getElem_cons_zero, Act.put, List.setIfInBounds_toArray, List.set_cons_zero, List.set_cons_succ]
          refine wpAnyH_take (i := 8) (v := undef) rfl (by kernel_rfl) (by kernel_rfl) (by kernel_rfl) (fun _ _ _ h => h) (Or.inr ⟨by rfl, rfl⟩) hHeld ?_
          try simp only [List.getElem_toArray, List.getElem_cons_succ, List.getElem_cons_zero, Act.put, List.setIfInBounds_toArray, List.set_cons_zero, List.set_cons_succ]
          refine wpAnyH_take (i := 9) (v := undef) rfl (by kernel_rfl) (by kernel_rfl) (by kernel_rfl) (fun _ _ _ h => h) (Or.inr ⟨by rfl, rfl⟩) hHeld ?_
          try simp only [List.getElem_toArray, List.getElem_cons_succ, List.getElem_cons_zero, Act.put, List.setIfInBounds_toArray, List.set_cons_zero, List.set_cons_succ]
          refine wpAnyH_take (i := 10) (v := undef) rfl (by kernel_rfl) (by kernel_rfl) (by kernel_rfl) (fun _ _ _ h => h) (Or.inr ⟨by rfl, rfl⟩) hHeld ?_
          try simp only [List.getElem_toArray, List.getElem_cons_succ, List.getElem_cons_zero, Act.put, List.setIfInBounds_toArray, List.set_cons_zero, List.set_cons_succ]
          refine wpAnyH_take (i := 11) (v := undef) rfl (by kernel_rfl) (by kernel_rfl) (by kernel_rfl) (fun _ _ _ h => h) (Or.inr ⟨by rfl, rfl⟩) hHeld ?_
          try simp only [List.getElem_toArray, List.getElem_cons_succ, List.getElem_cons_zero, Act.put, List.setIfInBounds_toArray, List.set_cons_zero, List.set_cons_succ]
          refine wpAnyH_take (i := 12) (v := undef) rfl (by kernel_rfl) (by kernel_rfl) (by kernel_rfl) (fun _ _ _ h => h) (Or.inr ⟨by rfl, rfl⟩) hHeld ?_
          try simp only [List.getElem_toArray, List.getElem_cons_succ, List.getElem_cons_zero, Act.put, List.setIfInBounds_toArray, List.set_cons_zero, List.set_cons_succ]
          refine wpAnyH_take (i := 13) (v := undef) rfl (by kernel_rfl) (by kernel_rfl) (by kernel_rfl) (fun _ _ _ h => h) (Or.inr ⟨by rfl, rfl⟩) hHeld ?_
          try simp only [List.getElem_toArray, List.getElem_cons_succ, List.getElem_cons_zero, Act.put, List.setIfInBounds_toArray, List.set_cons_zero, List.set_cons_succ]
          refine wpAnyH_take (i := 14) (v := undef) rfl (by kernel_rfl) (by kernel_rfl) (by kernel_rfl) (fun _ _ _ h => h) (Or.inr ⟨by rfl, rfl⟩) hHeld ?_
          try simp only [List.getElem_toArray, List.getElem_cons_succ, List.getElem_cons_zero, Act.put, List.setIfInBounds_toArray, List.set_cons_zero, List.set_cons_succ]
          refine wpAnyH_take (i := 15) (v := undef) rfl (by kernel_rfl) (by kernel_rfl) (by kernel_rfl) (fun _ _ _ h => h) (Or.inr ⟨by rfl, rfl⟩) hHeld ?_
          try simp only [List.getElem_toArray, List.getElem_cons_succ, List.getElem_cons_zero, Act.put, List.setIfInBounds_toArray, List.set_cons_zero, List.set_cons_succ]
          refine wpAnyH_take (i := 16) (v := undef) rfl (by kernel_rfl) (by kernel_rfl) (by kernel_rfl) (fun _ _ _ h => h) (Or.inr ⟨by rfl, rfl⟩) hHeld ?_
          try simp only [List.getElem_toArray, List.getElem_cons_succ, List.getElem_cons_zero, Act.put, List.setIfInBounds_toArray, List.set_cons_zero, List.set_cons_succ]
          refine wpAnyH_take (i := 17) (v := undef) rfl (by kernel_rfl) (by kernel_rfl) (by kernel_rfl) (fun _ _ _ h => h) (Or.inr ⟨by rfl, rfl⟩) hHeld ?_
          try simp only [List.getElem_toArray, List.getElem_cons_succ, List.getElem_cons_zero, Act.put, List.setIfInBounds_toArray, List.set_cons_zero, List.set_cons_succ]
          refine wpAnyH_take (i := 18) (v := undef) rfl (by kernel_rfl) (by kernel_rfl) (by kernel_rfl) (fun _ _ _ h => h) (Or.inr ⟨by rfl, rfl⟩) hHeld ?_
          try simp only [List.getElem_toArray, List.getElem_cons_succ, List.getElem_cons_zero, Act.put, List.setIfInBounds_toArray, List.set_cons_zero, List.set_cons_succ]
          refine wpAnyH_take (i := 19) (v := undef) rfl (by kernel_rfl) (by kernel_rfl) (by kernel_rfl) (fun _ _ _ h => h) (Or.inr ⟨by rfl, rfl⟩) hHeld ?_
          try simp only [List.getElem_toArray, List.getElem_cons_succ, List.getElem_cons_zero, Act.put, List.setIfInBounds_toArray, List.set_cons_zero, List.set_cons_succ]
          refine wpAnyH_take (i := 20) (v := undef) rfl (by kernel_rfl) (by kernel_rfl) (by kernel_rfl) (fun _ _ _ h => h) (Or.inr ⟨by rfl, rfl⟩) hHeld ?_
          try simp only [List.getElem_toArray, List.getElem_cons_succ, List.getElem_cons_zero, Act.put, List.setIfInBounds_toArray, List.set_cons_zero, List.set_cons_succ]
          refine wpAnyH_take (i := 21) (v := undef) rfl (by kernel_rfl) (by kernel_rfl) (by kernel_rfl) (fun _ _ _ h => h) (Or.inr ⟨by rfl, rfl⟩) hHeld ?_
          try simp only [List.getElem_toArray, List.getElem_cons_succ, List.getElem_cons_zero, Act.put, List.setIfInBounds_toArray, List.set_cons_zero, List.set_cons_succ]
          refine wpAnyH_take (i := 22) (v := undef) rfl (by kernel_rfl) (by kernel_rfl) (by kernel_rfl) (fun _ _ _ h => h) (Or.inr ⟨by rfl, rfl⟩) hHeld ?_
          try simp only [List.getElem_toArray, List.getElem_cons_succ, List.getElem_cons_zero, Act.put, List.setIfInBounds_toArray, List.set_cons_zero, List.set_cons_succ]
          refine wpAnyH_take (i := 23) (v := undef) rfl (by kernel_rfl) (by kernel_rfl) (by kernel_rfl) (fun _ _ _ h => h) (Or.inr ⟨by rfl, rfl⟩) hHeld ?_
          try simp only [List.getElem_toArray, List.getElem_cons_succ, List.getElem_cons_zero, Act.put, List.setIfInBounds_toArray, List.set_cons_zero, List.set_cons_succ]
          refine wpAnyH_take (i := 24) (v := undef) rfl (by kernel_rfl) (by kernel_rfl) (by kernel_rfl) (fun _ _ _ h => h) (Or.inr ⟨by rfl, rfl⟩) hHeld ?_
          try simp only [List.getElem_toArray, List.getElem_cons_succ, List.getElem_cons_zero, Act.put, List.setIfInBounds_toArray, List.set_cons_zero, List.set_cons_succ]
          refine wpAnyH_take (i := 25) (v := ?_) rfl (by kernel_rfl) (by kernel_rfl) (by kernel_rfl) (fun _ _ _ h => h) (Or.inl ⟨by rfl, ?_⟩) hHeld ?_
          rotate_left
          · intro w9 hSw; (try dsimp only at hSw); go_simp; (try with_reducible rfl)
          try simp only [List.getElem_toArray, List.getElem_cons_succ, List.getElem_cons_zero, Act.put, List.setIfInBounds_toArray, List.set_cons_zero, List.set_cons_succ]
          try simp only [List.getElem_toArray, List.getElem_cons_succ, List.getElem_cons_zero, Act.put, List.setIfInBounds_toArray, List.set_cons_zero, List.set_cons_succ]
          refine wpAnyH_done (by kernel_rfl) ?_ _
          clear hHeld
          go_wp2_with fail
          go_roundw
          case rel => exact ⟨i + 1, L, z, by go_num, rfl, by omega, HE.out.kept (Kept.refl [] wr).drew, HO, HF, (by have := HLn.out; show _ ≤ _; omega), hz, HK2, HBr⟩
          case measure => simp [intOf]; omega
      · have hlt' : ¬ (i : Int) < n := by omega
        have hl9 : L.length ≤ 1000000 := by have := HLn.out; omega
        have HOc := hide (okL_cut HO.out ct)
        have HCl : Hid ((cutL L ct).length ≤ L.length) := by show _ ≤ _; unfold cutL; rw [List.length_drop]; omega
        have hlc : (cutL L ct).length ≤ 1000000 := by have := HCl.out; omega
        obtain ⟨N, hN⟩ : ∃ N : Nat, ct + N = z + 1 := ⟨(z + 1 - ct).toNat, by omega⟩
        have HSn := hide (fun k => seen_all HO.out HF.out hc0.1 hN hz.1 k)
        have cT := cut_call B0 wr p 3 L HE.out HO.out hl9 HBr.out ct
        unfold CutP at cT
        generalize cutL L ct = M at *
        go_upto_region 17 with (first
          | (go_at_call 7; refine cT.mono ?_; clear cT; rintro _ w3 ⟨⟨v3, rfl⟩, hF3, hT3⟩
             have HK3 : Hid (Kept [] w w3) := Tn.low HK.out hT3 HB.out
             have HE3 := hide hF3
             clear hF3 hT3
             have cU := union_call B0 w3 p 3 M HE3.out HOc.out.1 hlc)
          | (go_at_call 8; refine cU.mono ?_; clear cU; rintro _ w4 ⟨v4, rfl, hR4, hK4⟩
             obtain ⟨au, cu, rfl, _⟩ := hR4.sl
             have HK4 : Hid (Kept [] w w4) := HK3.out.trans hK4 (by simp)
             have HE4 := hide (HE3.out.kept hK4)
             have HR4 := hide hR4
             clear hR4 hK4))
        obtain ⟨w5, hw5⟩ : ∃ w5, w5 = w4.alloc (.cells #[.bool false, .bool false, .bool false, .bool false, .bool false, .bool false, .bool false, .bool false, .bool false, .bool false, .bool false, .bool false, .bool false, .bool false, .bool false] 4) := ⟨_, rfl⟩
        have HK45 : Hid (Kept [] w4 w5) := by show Kept _ _ _; rw [hw5]; exact (Kept.refl [] w4).alloc _
        have HB5 : Hid (BitsAt w5 w4.heap.size (seen M ct 0)) := by show BitsAt _ _ _; rw [hw5]; exact heap_alloc_new w4 _
        go_upto_region 18 with fail
        rw [← hw5]
        clear hw5
        have HE5 := hide (HE4.out.kept HK45.out)
        have HR5 : Hid (RowI w3.heap.size w5 (.slice au (told (uniB M)).length cu) (told (uniB M))) := HK45.out.ownsRow HR4.out (by simp)
        have HK5 : Hid (Kept [] w w5) := HK4.out.trans HK45.out (by simp)
        have HKs : Hid (w.heap.size ≤ w4.heap.size) := HK4.out.size
        generalize w4.heap.size = bi at *
        clear HE4 HR4 HK45 HK4 HE3 HK3
        obtain ⟨nu, hnu⟩ : ∃ nu, nu = (told (uniB M)).length := ⟨_, rfl⟩
        rw [← hnu] at HR5 ⊢
        have HNu := hide hnu
        clear hnu
        go_upto_region 19 with fail
        go_loopw [11] (fun sv wr => UsI w5 bi M ct N sv wr) (fun sv _ => (z + 1 - intOf sv).toNat)
        case atStart => exact ⟨0, by simp, Nat.zero_le _, HB5, Tn.refl _ _ _⟩
        case round =>
          obtain ⟨j, rfl, hj, HBj, HTj⟩ := hrel
          by_cases hjN : j < N
          · have hle : ct + (j : Int) ≤ z := by omega
            have cA := at_call B0 wr p 3 M (HE5.out.tn HTj.out (by decide) (by decide)) HOc.out hlc (ct + j)
            have HMay : Hid (∀ x ∈ atL M (ct + j), 0 ≤ x ∧ x < 15) := by
              obtain ⟨x, hx, e⟩ := at_mem HOc.out.1 (ct + j)
              show ∀ x ∈ atL M (ct + j), 0 ≤ x ∧ x < 15
              rw [e]
              exact (HOc.out.2.2 x hx).1.2.2
            have HMl : Hid ((atL M (ct + j)).length ≤ 15) := by
              obtain ⟨x, hx, e⟩ := at_mem HOc.out.1 (ct + j)
              show _ ≤ _
              rw [e]
              exact may_len (HOc.out.2.2 x hx).1
            have HNx : Hid (marks (seen M ct j) (atL M (ct + j)) = seen M ct (j + 1)) := rfl
            generalize atL M (ct + (j : Int)) = m at *
            go_upto_region 23 with (go_at_call 9; refine cA.mono ?_; clear cA; rintro _ wA ⟨vA, rfl, hRA, hKA⟩
                                    obtain ⟨aA, kA, rfl, _⟩ := hRA.sl
                                    have HRA := hide hRA
                                    have HKA := hide hKA
                                    clear hRA hKA)
            obtain ⟨lm, hlm⟩ : ∃ lm, lm = m.length := ⟨_, rfl⟩
            rw [← hlm] at HRA ⊢
            have HLm := hide hlm
            have hlb : lm ≤ 15 := by rw [hlm]; exact HMl.out
            clear hlm
            have HBA : Hid (BitsAt wA bi (marks (seen M ct j) [])) := by show BitsAt _ _ _; rw [marks_nil]; exact HKA.out.at HBj.out (by simp)
            have HTA : Hid (Tn bi [4] w5 wA) := HTj.out.trans (Tn.kept HKA.out)
            go_loopw [13] (fun kv wr => UmI wA bi (seen M ct j) m kv wr) (fun kv _ => lm - (intOf kv).toNat)
            case atStart => exact ⟨0, rfl, Nat.zero_le _, by rw [List.take_zero]; exact HBA, Tn.refl _ _ _⟩
            case round =>
              obtain ⟨t, rfl, ht, HBt, HTt⟩ := hrel
              by_cases htl : t < lm
              · have htl' : (t : Int) < lm := by omega
                have htm : t < m.length := by rw [← HLm.out]; exact htl
                obtain ⟨g, o, he, y0⟩ := (RowI.sl' (HTt.out.row HRA.out (by decide))).2.2.2 t htm
                subst he
                have HTk : Hid (m.take (t + 1) = m.take t ++ [m[t]]) := List.take_succ_eq_append_getElem htm
                have hmb := HMay.out _ (List.getElem_mem htm)
                generalize m[t] = y at *
                obtain ⟨q, rfl⟩ : ∃ q : Nat, y = q := ⟨y.toNat, by omega⟩
                have hq : q < 15 := by omega
                have hq' : (q : Int) < 15 := by omega
                have c1 := HBt.out.cell hq
                have ff : wr.frozen? ⟨bi, q, none⟩ = false := froz3 HBt.out q
                go_wp2_with fail
                go_roundw
                case rel =>
                  refine ⟨t + 1, by go_num, htm, ?_, ?_⟩
                  · show BitsAt _ _ _
                    rw [HTk.out, ← marks_snoc]
                    exact HBt.out.set true hq
                  · exact HTt.out.trans (HBt.out.turn q _)
                case measure => simp [intOf]; omega
              · have htl' : ¬ (t : Int) < lm := by omega
                have HB2 : Hid (BitsAt wr bi (seen M ct (j + 1))) := by
                  have h1 := HBt.out
                  rw [List.take_of_length_le (by rw [← HLm.out]; omega), HNx.out] at h1
                  exact h1
                have HT2 : Hid (Tn bi [4] w5 wr) := HTA.out.trans HTt.out
                go_wp2_with fail
                go_roundw
                case rel => exact ⟨j + 1, by go_num, by omega, HB2, HT2⟩
                case measure => simp [intOf]; omega
          · have hle : ¬ ct + (j : Int) ≤ z := by omega
            obtain rfl : j = N := by omega
            have HR9 : Hid (RowI w3.heap.size wr (.slice au nu cu) (told (uniB M))) := HTj.out.row HR5.out (by decide)
            have HK9 : Hid (Kept [] w wr) := Tn.low HK5.out HTj.out HKs.out
            have HB9 : Hid (BitsAt wr bi (uniB M)) := by
              have h1 := HBj.out
              unfold BitsAt at h1
              rw [setC_congr (fun k _ => HSn.out k)] at h1
              exact h1
            have HNc : Hid (nu = cntS (uniB M) 15) := by show _ = _; rw [HNu.out, told_cnt]
            generalize uniB M = Su at *
            go_upto_region 28 with fail
            go_loopw [15, 14] (fun iv nv wx => UcI wr Su iv nv wx) (fun iv _ _ => 15 - (intOf iv).toNat)
            case atStart => exact ⟨0, rfl, rfl, by omega, Kept.refl _ _⟩
            case round =>
              obtain ⟨s, rfl, rfl, hs15, HKx⟩ := hrel
              have HKz : Hid (Kept [] w wr) := HK9.out.trans HKx.out (by simp)
              have HBs : Hid (BitsAt wr bi Su) := HKx.out.at HB9.out (by simp)
              have HRs := hide (RowI.sl' (HKx.out.ownsRow HR9.out (by simp)))
              by_cases hsl : s < 15
              · have hsl' : (s : Int) < 15 := by omega
                have c1 := HBs.out.cell hsl
                have hcs := cntS_succ Su s
                have hcl := cntS_le Su s
                by_cases hS : Su s = true
                · rw [hS] at c1 hcs
                  obtain ⟨hq1, hq2⟩ := List.getElem?_eq_some_iff.1 (told_at hS hsl)
                  obtain ⟨g, o, he, y0⟩ := HRs.out.2.2.2 _ hq1
                  subst he
                  rw [hq2] at y0
                  have hqn : cntS Su s < nu := by rw [← HRs.out.1]; exact hq1
                  clear hq1 hq2
                  generalize cntS Su s = q at *
                  have hqn' : ¬ (nu : Int) ≤ q := by omega
                  go_wp2_with fail
                  go_roundw
                  case rel => exact ⟨s + 1, by go_num, by rw [hcs]; go_num, by omega, HKx⟩
                  case measure => simp [intOf]; omega
                · have hS' : Su s = false := by simpa using hS
                  rw [hS'] at c1 hcs
                  generalize cntS Su s = q at *
                  go_wp2_with fail
                  go_roundw
                  case rel => exact ⟨s + 1, by go_num, by rw [hcs]; simp, by omega, HKx⟩
                  case measure => simp [intOf]; omega
              · have hsl' : ¬ (s : Int) < 15 := by omega
                obtain rfl : s = 15 := by omega
                have hnc := HNc.out
                rw [← hnc]
                go_wp2_with fail
                go_ret
                exact ⟨by simp, HKz.out⟩

end Go.Proofs.Ytddkaagdkmmknab
