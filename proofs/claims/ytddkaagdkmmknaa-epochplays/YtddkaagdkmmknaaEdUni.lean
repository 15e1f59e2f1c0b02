/-
  The document's own Union.
-/
import Derived.Test.YtddkaagdkmmknaaEdChg
namespace Go.Proofs.Ytddkaagdkmmknaa
open Go.RowKit

theorem uni_succ {L : List Ep} {i : Nat} (h : i < L.length) (k : Nat) : uniB (L.take (i + 1)) k = (uniB (L.take i) k || setB L[i].m k) := by
  unfold uniB
  rw [List.take_succ_eq_append_getElem h, List.any_append]
  simp

def UnO (w : World) (L : List Ep) (nv ov : Value) (wr : World) : Prop := ∃ N : Nat, nv = .int .i64 (N : Int) ∧ N ≤ 15 ∧ Hid (RowI w.heap.size wr ov (toldN (uniB L) N)) ∧ Hid (Kept [] w wr)

def UnI (L : List Ep) (N n : Nat) (iv bv : Value) : Prop := ∃ (i : Nat) (b : Bool), iv = .int .i64 (i : Int) ∧ bv = .bool b ∧ i ≤ n ∧ Hid (b = uniB (L.take i) N)

set_option maxHeartbeats 8000000 in
set_option maxRecDepth 100000 in
theorem runion_call (B : Nat) (w : World) (p : Nat) (al : Int) (L : List Ep) (h : EdA B w p al L) (hn : L ≠ []) (hl : L.length ≤ 1000000) :
    Calls Try.prog 23 #[.pointer (some ⟨p, 0, none⟩)] w fun e w' => ∃ v, e = .returned v ∧ RowI w.heap.size w' v (told (uniB L)) ∧ Kept [] w w' := by
  obtain ⟨g, cap, X, h1, hS, hX, _, _, _⟩ := h.open hn
  have c1 : w.cell? ⟨p, 1, none⟩ = some (.slice (some ⟨g, 0, none⟩) L.length cap) := cell_inC (k := 1) h1 rfl
  have HS := hide hS
  have HX := hide hX
  generalize hln : L.length = n at c1 hl
  have HL := hide hln
  clear h hn h1 hS hX hln
  go_enter Try.func23, Try.ntmps23
  go_wp2_with fail
  go_loopw [4, 3] (fun nv ov wr => UnO w L nv ov wr) (fun nv _ _ => 15 - (intOf nv).toNat)
  case atStart => exact ⟨0, rfl, Nat.zero_le _, World.ownsRow_nil _ _ _ _, Kept.refl _ _⟩
  case round =>
    obtain ⟨N, rfl, hN, HRo, HK⟩ := hrel
    by_cases hlt : N < 15
    · have hlt' : (N : Int) < 15 := by omega
      have d1 := HK.out.cell c1 (by simp)
      go_wp2_with fail
      go_loop [6, 5] (fun iv bv => UnI L N n iv bv) (fun iv _ => n - (intOf iv).toNat)
      case atStart => exact ⟨0, false, rfl, rfl, Nat.zero_le _, by simp [Hid, uniB]⟩
      case round =>
        obtain ⟨i, b, rfl, rfl, hi, HB⟩ := hrel
        by_cases hlti : i < n
        · have hlti' : (i : Int) < n := by omega
          have hiL : i < L.length := by rw [HL.out]; exact hlti
          have hiX : i < X.length := by rw [HS.out.1]; exact hiL
          have HU := hide (uni_succ hiL N)
          cases b with
          | true =>
            have HB2 : Hid (true = uniB (L.take (i + 1)) N) := by show _ = _; rw [HU.out, ← HB.out]; rfl
            go_wp2_with fail
            go_round
            case rel => exact ⟨i + 1, true, by go_num, rfl, by omega, HB2⟩
            case measure => simp [intOf]; omega
          | false =>
            obtain ⟨g2, o2, e2, y0, y1⟩ := HS.out.2.2.2.1 i hiX
            cases e2
            obtain ⟨so, sc, hv, hsl⟩ := HS.out.2.2.2.2 _ (List.getElem_mem hiX)
            have hXi := fst_at HX.out hiX hiL
            rw [hv, Nat.zero_add] at y1
            rw [hXi] at y1 hsl
            have t1 := HK.out.cell y1 (by simp)
            have cH := hasQ_call _ so _ sc L[i].m (hsl.kept HK.out) (N : Int)
            have HJs : Hid (decide ((N : Int) ∈ L[i].m) = setB L[i].m N) := rfl
            rw [HJs.out] at cH
            have HB2 : Hid (setB L[i].m N = uniB (L.take (i + 1)) N) := by show _ = _; rw [HU.out, ← HB.out]; rfl
            clear y0 y1 hv hsl hXi HJs HU
            generalize setB L[i].m N = s at *
            generalize L[i].m.length = sn at *
            clear hiX hiL
            go_wp2_with (go_at_call 30; refine cH.mono ?_; clear cH; rintro _ _ ⟨rfl, rfl⟩)
            go_round
            case rel => exact ⟨i + 1, s, by go_num, rfl, by omega, HB2⟩
            case measure => simp [intOf]; omega
        · have hlti' : ¬ (i : Int) < n := by omega
          have HBn : Hid (uniB L N = b) := by
            show _ = _
            have h1 := HB.out
            rw [List.take_of_length_le (by rw [HL.out]; omega)] at h1
            exact h1.symm
          cases b with
          | true =>
            go_wp2_with (at_builtin; refine wp_appI rfl _ _ rfl w.heap.size _ (toldN (uniB L) N) rfl (((Kept.refl [] _).alloc _).ownsRow HRo.out (by simp)) _ (N : Int) rfl (cell_inC (k := 0) (heap_alloc_new _ _) rfl) (by have := toldN_len (uniB L) N; omega) (by have := HK.out.size; simp; omega) ?_; intro v3 w3 hR3 hG3)
            have HK3 : Hid (Kept [] w w3) := (HK.out.alloc _).grown hG3 (fun k hk => .inr (World.ownsRow.lt HRo.out k hk).1)
            have HR3 := hide hR3
            clear hR3 hG3
            go_roundw
            case rel => exact ⟨N + 1, by go_num, by omega, by show RowI _ _ _ _; rw [toldN_succ, HBn.out]; exact HR3.out, HK3⟩
            case measure => simp [intOf]; omega
          | false =>
            go_wp2_with fail
            go_roundw
            case rel => exact ⟨N + 1, by go_num, by omega, by show RowI _ _ _ _; rw [toldN_succ, HBn.out]; simpa using HRo.out, HK⟩
            case measure => simp [intOf]; omega
    · obtain rfl : N = 15 := by omega
      go_wp2_with fail
      go_ret
      exact ⟨_, rfl, HRo.out, HK.out⟩

end Go.Proofs.Ytddkaagdkmmknaa
