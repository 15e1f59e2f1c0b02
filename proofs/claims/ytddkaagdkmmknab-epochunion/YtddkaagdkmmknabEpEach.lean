/-
  (*Epochs).each: the epochs, one by one.
-/
import Derived.Test.YtddkaagdkmmknabEpMem
import Derived.Test.YtddkaagdkmmknabEpTell
import Derived.Test.YtddkaagdkmmknabRoundG
namespace Go.Proofs.Ytddkaagdkmmknab
open Go.RowKit Go.Shelf
attribute [local go_sem] Oper.semAt_some

def epV (x : Ep) : Value := spV x.f (setB x.m)

set_option maxHeartbeats 1000000 in
theorem eachE_in (n : Nat) (p : Option Addr) (w : World) :
    CallsIn Fence.wide n Try.prog 17 #[.pointer p] w fun e w' => e = .returned (.func (.func 22) #[] #[.pointer (some ⟨w.heap.size, 0, none⟩)]) ∧ w' = w.alloc (.cells #[.pointer p] 24) := by
  refine callsIn_of_wp Try.func17 rfl trivial ?_ rfl
  simp only [Try.ntmps17, List.size_toArray, List.length_cons, List.length_nil, Nat.reduceAdd, Nat.reduceSub, Array.replicate_succ, Array.replicate_zero, List.push_toArray, List.append_toArray, List.nil_append, List.cons_append]
  gi_wp2
  go_ret
  exact ⟨rfl, rfl⟩

set_option maxRecDepth 100000 in
set_option maxHeartbeats 4000000 in
theorem eachE1_in (l n₀ n b p g cap : Nat) (L : List Ep) (hl : L.length ≤ 1000000) (J Jx : List Ep → World → Prop)
    (hJ : ∀ pre W W', J pre W → Kept [] W W' → J pre W')
    (hY : ∀ pre (x : Ep) W, J pre W → pre.length < L.length → YieldAt Fence.wide (n - 1) Try.prog l #[epV x] W fun e W' =>
      (e = .returned (.bool true) ∧ J (pre ++ [x]) W' ∧ Below n₀ W W') ∨ (e = .returned (.bool false) ∧ Jx (pre ++ [x]) W'))
    (W : World) (hn₀ : n₀ ≤ W.heap.size) (hb : W.cell? ⟨b, 0, none⟩ = some (.pointer (some ⟨p, 0, none⟩))) (h1 : W.cell? ⟨p, 1, none⟩ = some (.slice (some ⟨g, 0, none⟩) L.length cap)) (hg : g < n₀) (hr : ∀ i (hi : i < L.length), W.rangeAt g (i * 16) (epC L[i])) (h0 : J [] W) :
    CallsIn Fence.wide n Try.prog 22 #[.func (.yield l) #[] #[], .pointer (some ⟨b, 0, none⟩)] W fun e W' => (∃ v, e = .returned v) ∧
      ((∃ ys, ys = L ∧ J ys W') ∨ (∃ pre, pre <+: L ∧ Jx pre W')) := by
  have HR := hide hr
  have HN := hide hn₀
  clear hr hn₀
  generalize hln : L.length = len at h1 hl hY
  have HL := hide hln
  clear hln
  refine callsIn_of_wp Try.func22 rfl trivial ?_ rfl
  simp only [Try.ntmps22, List.size_toArray, List.length_cons, List.length_nil, Nat.reduceAdd, Nat.reduceSub, Array.replicate_succ, Array.replicate_zero, List.push_toArray, List.append_toArray, List.nil_append, List.cons_append]
  gi_wp2_with fail
  gi_loopw [12] (fun i wr => ∃ k : Nat, k ≤ len ∧ i = .int .i64 k ∧ Hid (J (L.take k) wr) ∧ Hid (Below n₀ W wr))
    (fun i _ => len - (intOf i).toNat)
  case atStart => exact ⟨0, Nat.zero_le _, rfl, by simpa [Hid] using h0, Below.refl _ _⟩
  case round =>
    obtain ⟨k, hk, rfl, HJ, HB⟩ := hrel
    by_cases hlt : k < len
    · have hlt' : (k : Int) < len := by omega
      have hkL : k < L.length := by rw [HL.out]; exact hlt
      have HT : Hid (L.take (k + 1) = L.take k ++ [L[k]]) := List.take_succ_eq_append_getElem hkL
      have HRk : Hid (wr.rangeAt g (k * 16) (epC L[k])) := fun j v hv => (HB.out.cell (p := ⟨g, k * 16 + j, none⟩) hg).trans (HR.out k hkL j v hv)
      have HPre : Hid (L.take k ++ [L[k]] <+: L) := by show _ <+: _; rw [← HT.out]; exact List.take_prefix _ _
      generalize L[k] = x at *
      have hX : SpAt (wr.alloc (.cells #[.int .i64 0, .bool false, .bool false, .bool false, .bool false, .bool false, .bool false, .bool false, .bool false, .bool false, .bool false, .bool false, .bool false, .bool false, .bool false, .bool false] 43)) wr.heap.size 0 (fun _ => false) := heap_alloc_new wr _
      gi_wp2_with (first
        | ((with_reducible refine wi_load_span (f := x.f) (S := setB x.m) ?_ HRk.out ?_); rfl)
        | ((with_reducible refine wi_load_span (f := x.f) (S := setB x.m) ?_ HS5.out.range ?_); rfl)
        | ((with_reducible refine wi_store_span x.f (setB x.m) ?_ ?_ hX ?_); rfl; rfl; intro w5 HS5 HK5a
           have HK5 : Hid (Kept [] wr w5) := ((Kept.refl [] wr).alloc _).trans HK5a.out (by simp)
           have HY5 := hide (hY (L.take k) x w5 (hJ _ _ _ HJ.out HK5.out) (by simp; omega))
           clear HK5a))
      obtain ⟨fn, tmps, assign, body, hy, hR⟩ := HY5.out
      unfold epV at hy
      clear HY5 hY
      rw [hy]
      refine ⟨wide_room _, hR.mono ?_⟩
      clear hR
      have HB5 : Hid (Below n₀ W w5) := HB.out.trans (HK5.out.below (Nat.le_trans HN.out HB.out.size) (by simp))
      rintro e W3 (⟨rfl, hJ3, hk3⟩ | ⟨rfl, hJx3⟩)
      · gi_wp2_with fail
        go_roundw
        case rel => exact ⟨k + 1, by omega, by go_num, by show J _ _; rw [HT.out]; exact hJ3, HB5.out.trans hk3⟩
        case measure => simp [intOf]; omega
      · gi_wp2_with fail
        refine bodyPost_ret (results_none rfl _ _ _) rfl ?_
        exact ⟨⟨_, rfl⟩, .inr ⟨_, HPre.out, hJx3⟩⟩
    · obtain rfl : k = len := by omega
      gi_wp2_with fail
      go_end0
      exact ⟨⟨_, rfl⟩, .inl ⟨_, List.take_of_length_le (by rw [HL.out]; omega), HJ.out⟩⟩

theorem eachE_stops (n n₀ b p g cap : Nat) (L : List Ep) (hl : L.length ≤ 1000000) (w : World) (hb0 : b < w.heap.size) (hp0 : p < w.heap.size) (hn₀ : n₀ ≤ w.heap.size) (hb : w.cell? ⟨b, 0, none⟩ = some (.pointer (some ⟨p, 0, none⟩))) (h1 : w.cell? ⟨p, 1, none⟩ = some (.slice (some ⟨g, 0, none⟩) L.length cap)) (hg : g < n₀) (hr : ∀ i (hi : i < L.length), w.rangeAt g (i * 16) (epC L[i])) :
    SeqStopsK Fence.wide n Try.prog 22 #[.pointer (some ⟨b, 0, none⟩)] (fun x : Ep => #[epV x]) (Below n₀) (fun ys => ys = L) (fun pre => pre <+: L) L.length w :=
  fun l J Jx W hW hA _ hY h0 => eachE1_in l n₀ n b p g cap L hl J Jx (abides_kept hA) hY W (Nat.le_trans hn₀ hW.size) ((hW.cell (p := ⟨b, 0, none⟩) hb0).trans hb) ((hW.cell (p := ⟨p, 1, none⟩) hp0).trans h1) hg
    (fun i hi j v hv => (hW.cell (p := ⟨g, i * 16 + j, none⟩) (Nat.lt_of_lt_of_le hg hn₀)).trans (hr i hi j v hv)) h0

end Go.Proofs.Ytddkaagdkmmknab
