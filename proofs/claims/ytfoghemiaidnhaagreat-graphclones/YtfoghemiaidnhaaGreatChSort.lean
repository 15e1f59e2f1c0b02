/-
  change.Sorted.
-/
import Derived.Test.YtfoghemiaidnhaaGreatM2
import Derived.Test.YtfoghemiaidnhaaGreatChApp
import Derived.Test.YtfoghemiaidnhaaGreatM3
import Derived.WalkSpells
namespace Go.Proofs.YtfoghemiaidnhaaGreat
open Go.RowKit

/-- One more, behind those that are not above it. -/
def insC (x : Ch) : List Ch → List Ch
  | [] => [x]
  | y :: L => if cmpT y.p x.p ≤ 0 then y :: insC x L else x :: y :: L

/-- Sorted, those of one path in their order. -/
def sortC (L : List Ch) : List Ch := L.foldl (fun M x => insC x M) []

theorem mem_insC {x z : Ch} {L : List Ch} (h : z ∈ insC x L) : z = x ∨ z ∈ L := by
  induction L with
  | nil => simp [insC] at h; exact .inl h
  | cons y L ih =>
    simp only [insC] at h
    split at h
    · rcases List.mem_cons.1 h with rfl | h
      · exact .inr (by simp)
      · rcases ih h with e | e
        · exact .inl e
        · exact .inr (by simp [e])
    · rcases List.mem_cons.1 h with rfl | h
      · exact .inl rfl
      · exact .inr h

theorem insC_ris (x : Ch) {L : List Ch} (h : Ris L) : Ris (insC x L) := by
  induction L with
  | nil => simp [insC, Ris]
  | cons y L ih =>
    unfold Ris at h ih ⊢
    rw [List.pairwise_cons] at h
    simp only [insC]
    split
    · rename_i hc
      rw [List.pairwise_cons]
      refine ⟨fun z hz => ?_, ih h.2⟩
      rcases mem_insC hz with rfl | hz
      · exact hc
      · exact h.1 z hz
    · rename_i hc
      have h1 : cmpT x.p y.p ≤ 0 := by have := ordT.anti x.p y.p; omega
      rw [List.pairwise_cons]
      refine ⟨fun z hz => ?_, by rw [List.pairwise_cons]; exact h⟩
      rcases List.mem_cons.1 hz with rfl | hz
      · exact h1
      · exact cmpT_le h1 (h.1 z hz)

theorem insC_alike (x : Ch) {L : List Ch} (h : Ris L) : Alike (L ++ [x]) (insC x L) := by
  induction L with
  | nil => exact Alike.refl _
  | cons y L ih =>
    unfold Ris at h ih
    rw [List.pairwise_cons] at h
    simp only [insC]
    split
    · exact (Alike.refl [y]).app (ih h.2)
    · rename_i hc
      refine Alike.swap (U := y :: L) (V := [x]) fun u hu v hv e => ?_
      simp at hv
      subst hv
      apply hc
      rcases List.mem_cons.1 hu with rfl | hu
      · rw [e, cmpT_refl]; omega
      · rw [← e]; exact h.1 u hu

theorem sortC_snoc (L : List Ch) (x : Ch) : sortC (L ++ [x]) = insC x (sortC L) := by simp [sortC]

theorem sortC_all (L : List Ch) : Ris (sortC L) ∧ Alike L (sortC L) := by
  rw [← List.reverse_reverse L]
  induction L.reverse with
  | nil => exact ⟨by simp [sortC, Ris], Alike.refl _⟩
  | cons x M ih =>
    rw [List.reverse_cons, sortC_snoc]
    exact ⟨insC_ris x ih.1, (ih.2.app (Alike.refl [x])).trans (insC_alike x ih.1)⟩

theorem sortC_ris (L : List Ch) : Ris (sortC L) := (sortC_all L).1
theorem sortC_alike (L : List Ch) : Alike L (sortC L) := (sortC_all L).2
theorem sortC_length (L : List Ch) : (sortC L).length = L.length := (sortC_alike L).length.symm

theorem seg_list (L : List Ch) (z : Ch) : seg (fun i => L.getD i z) 0 L.length = L := by
  apply List.ext_getElem
  · rw [seg_length]; omega
  · intro i h1 h2
    rw [seg_get, Nat.zero_add]
    simp [List.getD, h2]

theorem sorted_is {L : List Ch} {z : Ch} {h : Nat → Ch} (hR : RisF h 0 L.length) (hA : AlikeF (fun i => L.getD i z) h 0 L.length) : seg h 0 L.length = sortC L := by
  have h1 := hA.alike
  rw [seg_list] at h1
  exact (h1.symm.trans (sortC_alike L)).one hR.ris (sortC_ris L)

set_option maxHeartbeats 1000000 in
theorem cloneC_call (w : World) (ao : Option Addr) (n c : Nat) (L : List Ch) (hS : SlC w ao n c L) (hnil : ao = none → c = 0) (hn : n ≤ 1000000000) :
    Calls Tryz.prog 76 #[.slice ao n c] w fun e w' => ∃ v, e = .returned v ∧ OwnC w.heap.size w' v L ∧ Kept [] w w' := by
  have hl := hS.1
  have hc := hS.2.1
  have hm := hS.2.2.1
  unfold maxLen at hm
  have q0 : ∀ (w : World) (a : Option Addr) (n c : Nat), (binOp .eql 32 (.slice a n c) (.slice none 0 0)).run Tryz.prog w = .ok (.bool a.isNone) w := fun w a n c => Lib.run_eql_slice_nil w _ _ a n c 0 0 Tryz.underlying32
  cases ao with
  | none =>
    obtain rfl := hnil rfl
    obtain rfl : n = 0 := by omega
    obtain rfl : L = [] := by simpa using hl
    clear hS
    go_enter Tryz.func76, Tryz.ntmps76
    go_wp2_with fail
    go_ret
    exact ⟨_, rfl, OwnC.nil _ _, Kept.refl _ _⟩
  | some ad =>
    have hA := (Kept.refl [] w).alloc (.cells #[] 31)
    have hO0 := own_voidC w w.heap.size (Nat.le_refl _)
    have HS : Hid (SlC (w.alloc (.cells #[] 31)) (some ad) n c L) := hS.kept hA (by simp)
    have HL : Hid (L.length = n) := hl
    clear hS hl
    go_enter Tryz.func76, Tryz.ntmps76
    go_wp2_with (at_builtin; refine wp_appC rfl _ _ rfl w.heap.size _ [] rfl hO0 ad n c L rfl HL.out.symm HS.out.runs' (by rw [HL.out]; simp; omega) (by simp) ?_)
    intro v' w' hO hg
    have hK := grown_keptC hA hO0 (Nat.le_refl _) hg
    clear hg hO0
    go_wp2_with fail
    go_ret
    exact ⟨v', rfl, hO, hK⟩

theorem keptC_up {B : Nat} {a b w : World} {g : Nat} (h : Kept [] a b) (k : Kept [g] b w) (hg : B ≤ g) (hB : a.heap.size ≤ B) : Kept [] a w :=
  h.trans k (by intro i hi; simp at hi; subst hi; exact .inr (by omega))

theorem bd_list {L : List Ch} (hp : ∀ x ∈ L, x.p.length ≤ 140737488355328) (z : Ch) : Bd (fun i => L.getD i z) L.length := fun k hk => by
  have e : L.getD k z = L[k] := by simp [List.getD, hk]
  show (L.getD k z).p.length ≤ _
  rw [e]
  exact hp _ (List.getElem_mem hk)

set_option maxHeartbeats 1000000 in
theorem ins_void (w : World) (ao : Option Addr) (c : Nat) (v : Value) :
    Calls Tryz.prog 121 #[.slice ao 0 c, .int .i64 0, .int .i64 0, v] w fun e w' => e = .returned (.tuple #[]) ∧ w' = w := by
  go_enter Tryz.func121, Tryz.ntmps121
  go_wp2_with fail
  refine wp_loop_rounds 1 ?_
  rw [rounds_succ]
  go_wp2_with fail
  go_returns
  exact ⟨rfl, rfl⟩

set_option maxHeartbeats 1000000 in
theorem stable_void (w : World) (ao : Option Addr) (c : Nat) (v : Value) :
    Calls Tryz.prog 99 #[.slice ao 0 c, .int .i64 0, v] w fun e w' => e = .returned (.tuple #[]) ∧ w' = w := by
  go_enter Tryz.func99, Tryz.ntmps99
  go_wp2_with fail
  refine wp_loop_rounds 1 ?_
  rw [rounds_succ]
  go_wp2_with fail
  refine (ins_void _ _ _ _).mono ?_
  rintro e w' ⟨rfl, rfl⟩
  go_wp2_with fail
  refine wp_loop_rounds 1 ?_
  rw [rounds_succ]
  go_wp2_with fail
  go_returns
  exact ⟨rfl, rfl⟩

set_option maxHeartbeats 1000000 in
theorem sortStable_void (w : World) (ao : Option Addr) (c : Nat) :
    Calls Tryz.prog 84 #[.slice ao 0 c, .func (.func 59) #[] #[]] w fun e w' => e = .returned (.tuple #[]) ∧ w' = w := by
  go_enter Tryz.func84, Tryz.ntmps84
  go_wp2_with fail
  refine (stable_void _ _ _ _).mono ?_
  rintro e w' ⟨rfl, rfl⟩
  go_wp2_with fail
  go_returns
  exact ⟨rfl, rfl⟩

set_option maxHeartbeats 1000000 in
theorem sortedBy_call (w : World) (ao : Option Addr) (n c : Nat) (L : List Ch) (hS : SlC w ao n c L) (hnil : ao = none → c = 0) (hn : n ≤ 1000000000) (hp : ∀ x ∈ L, x.p.length ≤ 140737488355328) :
    Calls Tryz.prog 58 #[.slice ao n c, .func (.func 59) #[] #[]] w fun e w' => ∃ v, e = .returned v ∧ OwnC w.heap.size w' v (sortC L) ∧ Kept [] w w' := by
  have cC := cloneC_call w ao n c L hS hnil hn
  have hl := hS.1
  subst hl
  clear hS
  have HP : Hid (∀ x ∈ L, x.p.length ≤ 140737488355328) := hp
  clear hp
  go_enter Tryz.func58, Tryz.ntmps58
  go_wp2_with fail
  refine cC.mono ?_
  rintro e w1 ⟨v, rfl, hO, hK1⟩
  clear cC
  by_cases h0 : L.length = 0
  · obtain rfl : L = [] := by simpa using h0
    obtain ⟨bo, cb, hv, _⟩ := hO.sl
    replace hv : v = .slice bo 0 cb := hv
    subst hv
    have HO : Hid (OwnC w.heap.size w1 (.slice bo 0 cb) []) := hO
    clear hO
    go_wp2_with fail
    refine (sortStable_void _ _ _).mono ?_
    rintro e w2 ⟨rfl, rfl⟩
    go_wp2_with fail
    go_ret
    exact ⟨_, rfl, HO.out, hK1⟩
  · obtain ⟨g, cap, rfl, hg, hR⟩ := hO.row (by omega) ⟨[], false, 0⟩
    have cS := sortStable_call w1 g L.length cap _ hR (bd_list HP.out _) (by omega)
    clear hO hR
    go_wp2_with fail
    refine cS.mono ?_
    rintro e w2 ⟨rfl, h, hT, hRi, hA, hK2⟩
    have hO2 := hT.own hg
    rw [sorted_is hRi hA] at hO2
    have HO2 : Hid (OwnC w.heap.size w2 (.slice (some ⟨g, 0, none⟩) L.length cap) (sortC L)) := hO2
    have hK := keptC_up hK1 hK2 hg (Nat.le_refl _)
    clear hT hRi hA hK2 hO2 cS
    go_wp2_with fail
    go_ret
    exact ⟨_, rfl, HO2.out, hK⟩

theorem RowC.setP {w : World} {g n cap : Nat} {f : Nat → Ch} (h : RowC w g n cap f) {i : Nat} (hi : i < n) : RowC (w.setCell ⟨g, i * 3, none⟩ (.string (str (f i).p))) g n cap f := by
  obtain ⟨h1, h2, cur, hh, hs, r⟩ := h
  refine ⟨h1, h2, _, heap_setCell_same w g (i * 3) cur _ _ hh, by simpa using hs, fun k hk => ?_⟩
  obtain ⟨r0, r1, r2⟩ := r k hk
  by_cases hki : k = i
  · subst hki
    refine ⟨?_, ?_, ?_⟩
    · simp [Array.getElem?_setIfInBounds]; omega
    · rw [Array.getElem?_setIfInBounds_ne (by omega)]; exact r1
    · rw [Array.getElem?_setIfInBounds_ne (by omega)]; exact r2
  · refine ⟨?_, ?_, ?_⟩
    · rw [Array.getElem?_setIfInBounds_ne (by omega)]; exact r0
    · rw [Array.getElem?_setIfInBounds_ne (by omega)]; exact r1
    · rw [Array.getElem?_setIfInBounds_ne (by omega)]; exact r2

set_option maxHeartbeats 2000000 in
theorem sorted_call (w : World) (ao : Option Addr) (n c : Nat) (L : List Ch) (hS : SlC w ao n c L) (hnil : ao = none → c = 0) (hn : n ≤ 1000000000) (hp : ∀ x ∈ L, x.p.length ≤ 140737488355328) :
    Calls Tryz.prog 29 #[.slice ao n c] w fun e w' => ∃ v, e = .returned v ∧ OwnC w.heap.size w' v (sortC L) ∧ Kept [] w w' := by
  have cC := sortedBy_call w ao n c L hS hnil hn hp
  have hl := hS.1
  subst hl
  clear hS
  have hp' : ∀ x ∈ sortC L, x.p.length ≤ 140737488355328 := fun x hx => hp x (((sortC_alike L).mem x).2 hx)
  have HB : Hid (Bd (fun i => (sortC L).getD i ⟨[], false, 0⟩) (sortC L).length) := bd_list hp' _
  generalize sortC L = M at *
  clear hp hp'
  go_enter Tryz.func29, Tryz.ntmps29
  go_wp2_with fail
  refine cC.mono ?_
  rintro e w1 ⟨v, rfl, hO, hK1⟩
  clear cC
  by_cases h0 : M.length = 0
  · obtain rfl : M = [] := by simpa using h0
    obtain ⟨bo, cb, hv, _⟩ := hO.sl
    replace hv : v = .slice bo 0 cb := hv
    subst hv
    have HO : Hid (OwnC w.heap.size w1 (.slice bo 0 cb) []) := hO
    clear hO h0
    go_wp2_with fail
    refine wp_loop_rounds 1 ?_
    rw [rounds_succ]
    go_wp2_with fail
    go_ret
    exact ⟨_, rfl, HO.out, hK1⟩
  · obtain ⟨g, cap, rfl, hg, hR⟩ := hO.row (by omega) ⟨[], false, 0⟩
    have HG : Hid (w.heap.size ≤ g) := hg
    obtain ⟨f, hf⟩ : ∃ f : Nat → Ch, f = fun i => M.getD i ⟨[], false, 0⟩ := ⟨_, rfl⟩
    have HF : Hid (seg f 0 M.length = M) := by show seg f 0 M.length = M; rw [hf]; exact seg_list M _
    rw [← hf] at hR HB
    have HR : Hid (RowC w1 g M.length cap f) := hR
    have hcap := hR.le
    have hmax := hR.max
    unfold maxLen at hmax
    obtain ⟨m, hm⟩ : ∃ m, m = M.length := ⟨_, rfl⟩
    rw [← hm] at HR HB HF hcap h0 ⊢
    clear hO hR hf hg hm
    go_wp2_with fail
    go_loopw [9] (fun iv wr => ∃ i : Nat, i ≤ m ∧ iv = .int .i64 i ∧ Hid (RowC wr g m cap f) ∧ Hid (Kept [] w wr)) (fun iv _ => m - (intOf iv).toNat)
    case atStart => exact ⟨0, Nat.zero_le _, rfl, HR, hK1⟩
    case round =>
      obtain ⟨i, hi, rfl, HT, HK⟩ := hrel
      by_cases hlt : i < m
      · have hlt' : (i : Int) < m := by omega
        have c0 := (HT.out.ch hlt).c0
        have hb := HB.out i hlt
        have cP := fun W => clone_call (f i).p W hb
        have hbg : g < wr.heap.size := HT.out.lt
        clear hb
        go_wp2_with fail
        refine (cP _).mono ?_
        rintro e w2 ⟨rfl, hK2⟩
        have HT2 : Hid (RowC w2 g m cap f) := HT.out.kept hK2 (by simp)
        have c1 := (HT2.out.ch hlt).c0
        have f1 := HT2.out.froz (i * 3)
        have HK2 : Hid (Kept [] w w2) := HK.out.trans hK2 (by simp)
        have HT3 : Hid (RowC (w2.setCell ⟨g, i * 3, none⟩ (.string (str (f i).p))) g m cap f) := HT2.out.setP hlt
        clear cP c0 hK2
        go_wp2_with fail
        go_roundw
        case rel => exact ⟨i + 1, by omega, by go_num, HT3, HK2.out.setCell (.inr HG.out) _⟩
        case measure => simp [intOf]; omega
      · have hlt' : ¬ (i : Int) < m := by omega
        have HO : Hid (OwnC w.heap.size wr (.slice (some ⟨g, 0, none⟩) m cap) M) := by
          have h1 := HT.out.own HG.out
          rw [HF.out] at h1
          exact h1
        go_wp2_with fail
        go_ret
        exact ⟨_, rfl, HO.out, HK.out⟩

end Go.Proofs.YtfoghemiaidnhaaGreat
