/-
  Small: has a verdict few and small parts? Whatever it says, it says, and changes nothing.
-/
import Derived.Test.YtlgacmmofimlmabEnSml
import Derived.Test.YtlgacmmofimlmabF2
import Derived.Test.YtlgacmmofimlmabF8
import Derived.Deep.RegionHeld3
namespace Go.Proofs.Ytlgacmmofimlmab
open Go.RowKit

def SaB (w : World) (e : Ending) (w' : World) : Prop := ∃ b : Bool, e = .returned (.bool b) ∧ Kept [] w w'

def SvI (W : World) (n : Nat) (iv : Value) (wr : World) : Prop := ∃ i : Nat, iv = .int .i64 (i : Int) ∧ i ≤ n ∧ Hid (Kept [] W wr)

set_option maxHeartbeats 8000000 in
set_option maxRecDepth 100000 in
theorem smallV_call (w : World) (x : Vt) (u : Value) (h : KoV w u x.k) :
    Calls Try.prog 6 #[vtV x u] w (SaB w) := by
  obtain ⟨ao, n, c, K, rfl, hK, _, _⟩ := h
  obtain ⟨W, hW⟩ : ∃ W, W = w.alloc (.cells #[.int .i64 x.c, .int .i64 x.s, .int .i64 x.r, .string (str x.p), .int .u64 x.d, .slice ao n c, .int .i64 x.m] 26) := ⟨_, rfl⟩
  have HW := hide hW
  have HK0 : Hid (Kept [] w W) := by rw [hW]; exact (Kept.refl _ _).alloc _
  have hB : Bx W w.heap.size 26 (vtL x (.slice ao n c)) := by rw [hW]; exact Bx.new w _ (vtL x (.slice ao n c))
  have HBx := hide hB
  have c3 : W.cell? ⟨w.heap.size, 3, none⟩ = some (.string (str x.p)) := hB.cell 3 rfl
  have c5 : W.cell? ⟨w.heap.size, 5, none⟩ = some (.slice ao n c) := hB.cell 5 rfl
  have hl := hK.1
  have hc := hK.2.1
  have hm := hK.2.2.1
  unfold maxLen at hm
  have HL : Hid (K.length = n) := hl
  have HK : Hid (SlK W ao n c K) := hK.kept HK0.out
  have hsp : (str x.p).size = x.p.length := str_size _
  clear hB hW hK hl
  unfold vtV
  by_cases hn : 100 < n
  · have hn' : (100 : Int) < n := by omega
    go_enter Try.func6, Try.ntmps6
    go_upto_region 1 with fail
    rw [← HW.out]
    go_wp2_with fail
    go_ret
    exact ⟨false, rfl, HK0.out⟩
  have hn' : ¬ (100 : Int) < n := by omega
  by_cases hp : 1000 < x.p.length
  · have hp' : (1000 : Int) < x.p.length := by omega
    go_enter Try.func6, Try.ntmps6
    go_upto_region 1 with fail
    rw [← HW.out]
    go_wp2_with fail
    go_ret
    exact ⟨false, rfl, HK0.out⟩
  have hp' : ¬ (1000 : Int) < x.p.length := by omega
  go_enter Try.func6, Try.ntmps6
  go_upto_region 1 with fail
  rw [← HW.out]
  go_wp2_with fail
  clear c5 c3
  go_loopw [3] (fun iv wr => SvI W n iv wr) (fun iv _ => n - (intOf iv).toNat)
  case atStart => exact ⟨0, rfl, Nat.zero_le _, Kept.refl _ _⟩
  case round =>
    obtain ⟨i, rfl, hi, HR⟩ := hrel
    have c5 : wr.cell? ⟨w.heap.size, 5, none⟩ = some (.slice ao n c) := (HBx.out.kept HR.out (by simp)).cell 5 rfl
    by_cases hlt : i < n
    · have hlt' : (i : Int) < n := by omega
      have hic : i ≤ c := by omega
      have hiK : i < K.length := by rw [HL.out]; exact hlt
      obtain ⟨g, o, rfl, hx⟩ := HK.out.2.2.2.1 i hiK
      obtain ⟨mo, mm, mc, e1, hs1, _⟩ := HK.out.2.2.2.2 _ (List.getElem_mem hiK)
      obtain ⟨_, _, x2, x3⟩ := hx.kept HR.out (by simp)
      rw [e1] at x3
      have cS := fun W2 (hk : Kept [] wr W2) => small_call W2 ⟨⟨0, [], 0, 0, 0, K[i].1.n, K[i].1.c, [], 0, 0, 0⟩, mo, mm, mc⟩ ((hs1.kept HR.out (by simp)).kept hk (by simp))
      generalize K[i].1 = y at *
      clear hx hs1 e1
      go_wp2_with fail
      go_region_held3 (fun w' => w'.cell? ⟨w.heap.size, 5, none⟩ = some (.slice (some ⟨g, o, none⟩) n c) ∧ w'.cell? ⟨g, o + i * 4 + 2, none⟩ = some (.string (str y.n)) ∧ w'.cell? ⟨g, o + i * 4 + 3, none⟩ = some (.slice mo mm mc))
        (first | go_keep | exact ⟨hK3.cell c5 (by simp), hK3.cell x2 (by simp), hK3.cell x3 (by simp)⟩)
        (first
          | (go_at_call 9; refine (cS _ ?_).mono ?_; exact (Kept.refl [] _).drew; rintro e w3 ⟨b3, rfl, hb3, hK3⟩; clear hb3; replace hK3 := (Kept.refl [] wr).drew.trans hK3 (by simp)))
      cases b3
      · have HW3 : Hid (Kept [] w w3) := (HK0.out.trans HR.out (by simp)).trans hK3 (by simp)
        clear cS hK3
        go_wp2_with fail
        go_ret
        exact ⟨false, rfl, HW3.out⟩
      · have HW3 : Hid (Kept [] W w3) := HR.out.trans hK3 (by simp)
        clear cS hK3
        go_wp2_with fail
        go_roundw
        case rel => exact ⟨i + 1, by go_num, by omega, HW3⟩
        case measure => simp [intOf]; omega
    · have hlt' : ¬ (i : Int) < n := by omega
      go_wp2_with fail
      go_ret
      exact ⟨true, rfl, HK0.out.trans HR.out (by simp)⟩

end Go.Proofs.Ytlgacmmofimlmab
