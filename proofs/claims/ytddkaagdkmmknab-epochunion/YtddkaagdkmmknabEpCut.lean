/-
  slices.Clone of epochs; Cut; Clone.
-/
import Derived.Test.YtddkaagdkmmknabEpStep
import Derived.Test.YtddkaagdkmmknabEpPlace
namespace Go.Proofs.Ytddkaagdkmmknab
open Go.RowKit

theorem epC_runs {w : World} {g o : Nat} {L : List Ep} (hr : ∀ i (hi : i < L.length), w.rangeAt g (o + i * 16) (epC L[i])) : ∀ (j : Nat) (u : Value), (L.flatMap epC)[j]? = some u → w.cell? ((⟨g, o, none⟩ : Addr).add j) = some u := by
  intro j u hj
  have hlt : j < L.length * 16 := by have := (List.getElem?_eq_some_iff.1 hj).1; rwa [epC_len] at this
  have hi : j / 16 < L.length := by omega
  have hk : j % 16 < 16 := Nat.mod_lt _ (by omega)
  have e : j = j / 16 * 16 + j % 16 := by omega
  rw [e, epC_get L (j / 16) hi (j % 16) hk] at hj
  have := hr (j / 16) hi (j % 16) u hj
  rw [adr_addC, show o + j = o + j / 16 * 16 + j % 16 by omega]
  exact this

set_option maxHeartbeats 4000000 in
set_option maxRecDepth 100000 in
theorem sclone_call (w : World) (g o n c : Nat) (L : List Ep) (hn : L.length = n) (hl : n ≤ 1000000) (hr : ∀ i (hi : i < L.length), w.rangeAt g (o + i * 16) (epC L[i])) :
    Calls Try.prog 16 #[.slice (some ⟨g, o, none⟩) n c] w fun e w' => ∃ v, e = .returned v ∧ RowE w.heap.size w' v L ∧ Kept [] w w' := by
  obtain ⟨i0, hi, hz0, hz1, hz2⟩ := info_parts info_span
  have HR := hide hr
  have HN := hide hn
  have hnil : (binOp BinOp.eql 44 (.slice (some ⟨g, o, none⟩) n c) (.slice none 0 0)).run Try.prog w = .ok (.bool false) w := by kernel_rfl
  clear hr hn
  go_enter Try.func16, Try.ntmps16
  go_wp2_with (at_builtin; refine wpList_append_own _ rfl _ _ 44 rfl w.heap.size 43 i0 _ 16 24 Try.underlying44 hi hz0 hz1 hz2 rfl (by decide) _ 0 [] rfl ⟨rfl, .inr ⟨w.heap.size, 0, #[], rfl, Nat.le_refl _, heap_alloc_new w _, Nat.le_refl _, Nat.zero_le _, rfl, rfl⟩⟩ ⟨g, o, none⟩ n c (L.flatMap epC) rfl (by rw [epC_len, HN.out]) ?n1 (epC_one L) (by unfold maxLen; omega) (by omega) (by simp) ?n2)
  case n1 =>
    intro j u hj
    exact ((Kept.refl [] w).alloc _).cell (epC_runs HR.out j u hj) (by simp)
  case n2 =>
    intro v' w' h2 h3 _
    go_wp2_with fail
    go_ret
    refine ⟨v', rfl, ?_, ((Kept.refl [] w).alloc _).grown h3 (fun k hk => .inr (by cases hk; exact Nat.le_refl _))⟩
    unfold RowE
    rw [HN.out]
    simpa using h2

theorem EpA.put {B : Nat} {w w' : World} {p : Nat} {al : Int} {L M : List Ep} {u : Value} (h : EpA B w p al L) (hk : Kept [] w w') (hR : RowE B w' u M) :
    EpA B (w'.setCell ⟨p, 1, none⟩ u) p al M ∧ Tn B [46, 43] w (w'.setCell ⟨p, 1, none⟩ u) := by
  obtain ⟨v, hv1, hv2, hv3⟩ := id h
  exact h.grown hv2 hk hR ⟨rfl, rfl, rfl, Nat.le_refl _, fun _ _ _ => rfl⟩ hv3

def CutP (B : Nat) (al : Int) (L : List Ep) (z : Int) (w : World) (p : Nat) (e : Ending) (w' : World) : Prop :=
  (∃ v, e = .returned v) ∧ EpA B w' p al (cutL L z) ∧ Tn B [46, 43] w w'

set_option maxHeartbeats 4000000 in
set_option maxRecDepth 100000 in
theorem cut_call (B : Nat) (w : World) (p : Nat) (al : Int) (L : List Ep) (h : EpA B w p al L) (hok : OkL L) (hl : L.length ≤ 1000000) (hB : B ≤ w.heap.size) (z : Int) :
    Calls Try.prog 7 #[.pointer (some ⟨p, 0, none⟩), .int .i64 z] w fun e w' => CutP B al L z w p e w' := by
  obtain ⟨g, cap, h1, h2, h3, h4⟩ := h.open hok.1
  have cM := made_call B w p al L h hok.1
  have cP := place_call B w p al L h hok.1 hok.2.1 hl z
  have c1 : w.cell? ⟨p, 1, none⟩ = some (.slice (some ⟨g, 0, none⟩) L.length cap) := cell_inC (k := 1) h1 rfl
  have HA := hide h
  have HC : Hid (cutL L z = L.drop (plc L z)) := rfl
  have hq := plc_lt hok.1 z
  have HR := hide h4
  have HH := hide h1
  unfold maxLen at h3
  generalize plc L z = q at *
  generalize hln : L.length = n at c1 h2 hl hq
  have HN := hide hln
  clear h h1 h4 hok hln
  by_cases h0 : q = 0
  · subst h0
    go_enter Try.func7, Try.ntmps7
    go_wp2_with (first | (go_at_call 12; refine cM.mono ?_; clear cM; rintro _ _ ⟨rfl, rfl⟩) | (go_at_call 15; refine cP.mono ?_; clear cP; rintro _ w2 ⟨rfl, hK2⟩))
    go_end0
    exact ⟨⟨_, rfl⟩, by rw [HC.out]; exact HA.out.kept hK2, Tn.kept hK2⟩
  · have h0' : 0 < (q : Int) := by omega
    have hqc : ¬ cap = q := by omega
    have hqn : q ≤ n := by omega
    have hqc' : q ≤ cap := by omega
    have hqn' : (q : Int) ≤ n := by omega
    go_enter Try.func7, Try.ntmps7
    go_upto_region 3 with (first | (go_at_call 12; refine cM.mono ?_; clear cM; rintro _ _ ⟨rfl, rfl⟩) | (go_at_call 15; refine cP.mono ?_; clear cP; rintro _ w2 ⟨rfl, hK2⟩))
    have HK2 := hide hK2
    have d1 := hK2.cell c1 (by simp)
    have cS := sclone_call w2 g (q * 16) (n - q) (cap - q) (L.drop q) (by rw [List.length_drop, HN.out]) (by omega) (fun i hi => by
      have h5 : q + i < L.length := by rw [List.length_drop] at hi; omega
      have h6 := HR.out (q + i) h5
      intro j v hv
      rw [List.getElem_drop] at hv
      rw [show q * 16 + i * 16 = (q + i) * 16 by omega]
      exact hK2.cell (h6 j v hv) (by simp))
    clear hK2 c1
    go_wp2_with (go_at_call 16; refine cS.mono ?_; clear cS; rintro _ w3 ⟨u, rfl, hR3, hK3⟩; obtain ⟨g3, cap3, rfl, _⟩ := hR3.slice (by intro e; have := congrArg List.length e; simp at this; have := HN.out; omega); have e1 := hK3.cell d1 (by simp); have ef : w3.frozen? ⟨p, 1, none⟩ = false := froz3 (hK3.at (HK2.out.at HH.out (by simp)) (by simp)) 1; have HK3 := hide hK3; have HR3 := hide hR3; clear hK3 hR3 d1)
    go_end0
    have hR : RowE B w3 (.slice (some ⟨g3, 0, none⟩) (L.length - q) cap3) (L.drop q) := by
      have h := HR3.out
      rw [List.length_drop] at h
      exact row_mono h (Nat.le_trans hB HK2.out.size)
    have hput := HA.out.put (HK2.out.trans HK3.out (by simp)) hR
    exact ⟨⟨_, rfl⟩, by rw [HC.out]; exact hput.1, hput.2⟩


end Go.Proofs.Ytddkaagdkmmknab
