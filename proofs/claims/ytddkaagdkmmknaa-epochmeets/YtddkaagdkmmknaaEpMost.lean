/-
  Most.
-/
import Derived.Test.YtddkaagdkmmknaaEpMostP
import Derived.Test.YtddkaagdkmmknaaEdInts
import Derived.Maps.OwnSet
import Derived.Maps.OwnOps
namespace Go.Proofs.Ytddkaagdkmmknaa
open Go.RowKit Go.Maps

theorem law3 : Keyed Try.prog 3 := int_keyed Try.underlying3

theorem zero_unit (w : World) : (zeroValue 72).run Try.prog w = .ok (.agg #[]) w := by kernel_rfl

/-- A map that is a set of numbers. -/
def SetM (w : World) (b n : Nat) (T : Int → Bool) : Prop := ∃ D : DataW Unit, w.ownsMap Try.prog 3 (unitElem (H := Unit)) b n D ∧ ∀ x, Maps.has D (.int .i64 x) = T x

theorem SetM.alloc {w : World} {b n : Nat} {T : Int → Bool} (h : SetM w b n T) (o : Obj) : SetM (w.alloc o) b n T := by
  obtain ⟨D, h1, h2⟩ := h
  exact ⟨D, h1.alloc _, h2⟩

theorem setM_made (w : World) : SetM (w.alloc (.map #[] 0)) w.heap.size 0 fun _ => false := ⟨_, World.ownsMap_made _ _ _ _, fun x => by rfl⟩

theorem wl_put {ops : Array Oper} {rest : List Oper} {a : Act} {w : World} {Q : Exit → Act → World → Prop} {d : Option Tmp} {m x v : Operand} {ty : TypeId} {ps : String} {af : Array Edge}
    {b n : Nat} {T : Int → Bool} {y : Int} (hm : a.eval m = .map (some b)) (hx : a.eval x = .int .i64 y) (hv : a.eval v = .agg #[]) (hw : (Lit.int .i64 y).wf = true) (hn : n ≤ 1000000) (hM : SetM w b n T)
    (h : ∀ w', Hid (SetM w' b (n + 1) fun z => decide (z = y) || T z) → Hid (Kept [b] w w') → wpList Try.prog ops Q rest (a.put d undef) w') : wpList Try.prog ops Q (⟨d, .mapUpdate 71 m x v, ty, ps, af, none⟩ :: rest) a w := by
  obtain ⟨D, h1, h2⟩ := hM
  refine wpList_mapUpdate_own _ rfl _ _ _ 71 rfl 3 72 law3 Try.underlying71 (unitElem (H := Unit)) b n _ hm h1 (by unfold maxLen; omega) _ _ _ hx hv (keyOf_int_mk Try.underlying3 hw) _ [] unitElem_mk ?_
  intro w1 h3 h4
  refine h w1 ⟨_, h3, fun z => ?_⟩ ((Kept.refl _ _).grown h4 (fun k hk => .inl (by cases hk; simp)))
  by_cases e : z = y
  · subst e
    rw [has_put_same h1.isMap (show WideAt.IsKeyLit (Lit.int .i64 z) from trivial)]
    simp
  · rw [has_put_other (fun e' => e (by cases e'; rfl)), h2]
    simp [e]

theorem wl_look {ops : Array Oper} {rest : List Oper} {a : Act} {w : World} {Q : Exit → Act → World → Prop} {d : Option Tmp} {m x : Operand} {ty : TypeId} {ps : String} {af : Array Edge}
    {b n : Nat} {T : Int → Bool} {y : Int} (hm : a.eval m = .map (some b)) (hx : a.eval x = .int .i64 y) (hw : (Lit.int .i64 y).wf = true) (hM : SetM w b n T)
    (h : wpList Try.prog ops Q rest (a.put d (.tuple #[.agg #[], .bool (T y)])) w) : wpList Try.prog ops Q (⟨d, .lookup 71 m x true, ty, ps, af, none⟩ :: rest) a w := by
  obtain ⟨D, h1, h2⟩ := hM
  refine wpList_lookup_own_unit _ rfl _ _ 71 rfl 3 72 law3 Try.underlying71 (zero_unit _) b n _ hm h1 _ _ hx (keyOf_int_mk Try.underlying3 hw) ?_
  rw [h2]
  exact h

theorem wl_del {ops : Array Oper} {rest : List Oper} {a : Act} {w : World} {Q : Exit → Act → World → Prop} {d : Option Tmp} {m x : Operand} {ty : TypeId} {ps : String} {af : Array Edge}
    {b n : Nat} {T : Int → Bool} {y : Int} (hm : a.eval m = .map (some b)) (hx : a.eval x = .int .i64 y) (hw : (Lit.int .i64 y).wf = true) (hM : SetM w b n T)
    (h : ∀ w', Hid (SetM w' b n fun z => !decide (z = y) && T z) → Hid (Kept [b] w w') → wpList Try.prog ops Q rest (a.put d (.tuple #[])) w') : wpList Try.prog ops Q (⟨d, .call { callee := .builtin .delete, args := #[m, x], argTypes := #[71, 3] }, ty, ps, af, none⟩ :: rest) a w := by
  obtain ⟨D, h1, h2⟩ := hM
  refine wpList_delete_own _ rfl _ _ 71 3 rfl 72 law3 Try.underlying71 _ b n _ hm h1 _ _ hx (keyOf_int_mk Try.underlying3 hw) ?_
  intro w1 h3 h4
  refine h w1 ⟨_, h3, fun z => ?_⟩ ((Kept.refl _ _).grown h4.grown (fun k hk => .inl (by cases hk; simp)))
  by_cases e : z = y
  · subst e
    rw [has_del_same]
    simp
  · rw [has_del_other (fun e' => e (by cases e'; rfl)), h2]
    simp [e]

def Mo1 (w : World) (m : List Int) (iv : Value) (wr : World) : Prop := ∃ j : Nat, iv = .int .i64 (j : Int) ∧ j ≤ m.length ∧ Hid (SetM wr w.heap.size j fun x => decide (x ∈ m.take j)) ∧ Hid (Kept [] w wr)

def Mo2 (w : World) (m l : List Int) (n : Nat) (iv nv : Value) (wr : World) : Prop := ∃ j : Nat, iv = .int .i64 (j : Int) ∧ j ≤ l.length ∧ ∃ z : Int, nv = .int .i64 z ∧ Hid (z = ((n / 2 + 1 : Nat) : Int) - (cntM m (l.take j) : Nat)) ∧
  Hid (SetM wr w.heap.size n fun x => decide (x ∈ m) && !decide (x ∈ l.take j)) ∧ Hid (Kept [] w wr)

theorem cnt_le2 (m l : List Int) : cntM m l ≤ m.length := len_le ((nub_nodup l).filter _) (fun x hx => by simp only [List.mem_filter, decide_eq_true_eq] at hx; exact hx.2)

set_option maxHeartbeats 4000000 in
set_option maxRecDepth 100000 in
theorem most_call (w : World) (ao bo : Option Addr) (n c n2 c2 : Nat) (m l : List Int) (hS : SlI w ao n c m) (hT : SlI w bo n2 c2 l) (hwm : WfI m) (hwl : WfI l) (hn : n ≤ 1000000) :
    Calls Try.prog 15 #[.slice ao n c, .slice bo n2 c2] w fun e w' => e = .returned (.bool (mostB m l)) ∧ Kept [] w w' := by
  have hmm := @run_makeMap Try.prog
  have hc := hS.2.1
  have hm := hS.2.2.1
  have hc2 := hT.2.1
  have hm2 := hT.2.2.1
  unfold maxLen at hm hm2
  have HS := hide hS
  have HT := hide hT
  have HL := hide hS.1
  have HL2 := hide hT.1
  have HWm := hide hwm
  have HWl := hide hwl
  have cQ := fun W => quorum_call W ao n c (by omega)
  clear hS hT hwm hwl
  go_enter Try.func15, Try.ntmps15
  go_wp2_with fail
  go_loopw [16] (fun iv wr => Mo1 w m iv wr) (fun iv _ => n - (intOf iv).toNat)
  case atStart => exact ⟨0, rfl, Nat.zero_le _, by simpa [Hid] using setM_made w, (Kept.refl _ _).alloc _⟩
  case round =>
    obtain ⟨j, rfl, hj, HM, HK⟩ := hrel
    by_cases hlt : j < n
    · have hlt' : (j : Int) < n := by omega
      have hjS : j < m.length := by rw [HL.out]; exact hlt
      obtain ⟨g, o, rfl, h0⟩ := (HS.out.kept HK.out).2.2.2 j hjS
      have HA : Hid (m.take (j + 1) = m.take j ++ [m[j]]) := List.take_succ_eq_append_getElem hjS
      have HW : Hid ((Lit.int .i64 m[j]).wf = true) := HWm.out _ (List.getElem_mem hjS)
      generalize m[j] = x at *
      go_wp2_with ((with_reducible refine wl_put (T := fun x => decide (x ∈ m.take j)) (y := x) (n := j) ?_ ?_ ?_ HW.out ?_ HM.out ?_); rfl; rfl; rfl; omega; intro w1 HM1 HK1)
      go_roundw
      case rel =>
        refine ⟨j + 1, by go_num, hjS, ?_, HK.out.trans HK1.out (by simp)⟩
        have h1 := HM1.out
        show SetM _ _ _ _
        rw [HA.out]
        simpa [List.mem_append, Bool.or_comm, or_comm] using h1
      case measure => simp [intOf]; omega
    · have hlt' : ¬ (j : Int) < n := by omega
      have HE : Hid (m.take j = m) := List.take_of_length_le (by rw [HL.out]; omega)
      obtain rfl : j = n := by have := HL.out; omega
      have cQ1 := cQ wr
      clear cQ
      go_wp2_with (go_at_call 14; refine cQ1.mono ?_; clear cQ1; rintro _ _ ⟨rfl, rfl⟩)
      clear hm hc
      go_loopw [28, 8] (fun iv nv wr => Mo2 w m l j iv nv wr) (fun iv _ _ => n2 - (intOf iv).toNat)
      case atStart =>
        refine ⟨0, rfl, Nat.zero_le _, _, rfl, by simp [Hid, cntM, nubL], ?_, HK⟩
        have h := HM.out
        rw [HE.out] at h
        simpa [Hid] using h
      case round =>
        obtain ⟨i, rfl, hi, z, rfl, HZ, HM2, HK2⟩ := hrel
        by_cases hlt2 : i < n2
        · have hlt2' : (i : Int) < n2 := by omega
          have hiS : i < l.length := by rw [HL2.out]; exact hlt2
          obtain ⟨g, o, rfl, h0⟩ := (HT.out.kept HK2.out).2.2.2 i hiS
          have HA : Hid (l.take (i + 1) = l.take i ++ [l[i]]) := List.take_succ_eq_append_getElem hiS
          have HW : Hid ((Lit.int .i64 l[i]).wf = true) := HWl.out _ (List.getElem_mem hiS)
          have hzb : -2000000 ≤ z ∧ z ≤ 2000000 := by
            have h1 := HZ.out
            have h2 := cnt_le2 m (l.take i)
            have h3 := HL.out
            omega
          generalize l[i] = x at *
          cases hT : (decide (x ∈ m) && !decide (x ∈ l.take i)) with
          | true =>
            have hw1 : IntKind.i64.wrap (z - 1) = z - 1 := IntWalk.i64_in _ (by omega)
            have HT2 := hide hT
            go_wp2_with (first | ((with_reducible refine wl_look (T := fun x => decide (x ∈ m) && !decide (x ∈ l.take i)) (y := x) ?_ ?_ HW.out HM2.out ?_); rfl; rfl; rw [hT]; clear hT) | ((with_reducible refine wl_del (y := x) ?_ ?_ HW.out (HM2.out.alloc _) ?_); rfl; rfl; intro w1 HM1 HK1))
            go_roundw
            case rel =>
              refine ⟨i + 1, by go_num, hiS, z - 1, by go_num, ?_, ?_, (HK2.out.alloc _).trans HK1.out (fun k hk => .inr (by simp at hk; omega))⟩
              · show _ = _
                have h1 := HT2.out
                simp at h1
                rw [HA.out, cnt_snoc, if_pos h1, HZ.out]
                omega
              · have h1 := HM1.out
                show SetM _ _ _ _
                rw [HA.out]
                refine Eq.mp ?_ h1
                congr 1
                funext y
                by_cases e : y = x <;> simp [e]
            case measure => simp [intOf]; omega
          | false =>
            have HT2 := hide hT
            go_wp2_with ((with_reducible refine wl_look (T := fun x => decide (x ∈ m) && !decide (x ∈ l.take i)) (y := x) ?_ ?_ HW.out HM2.out ?_); rfl; rfl; rw [hT]; clear hT)
            go_roundw
            case rel =>
              refine ⟨i + 1, by go_num, hiS, z, rfl, ?_, ?_, HK2.out.alloc _⟩
              · show _ = _
                have h1 := HT2.out
                rw [HA.out, cnt_snoc, if_neg (fun h => by simp [h.1, h.2] at h1), HZ.out]
                omega
              · have h1 := HM2.out.alloc (.cells #[] 72)
                have h2 := HT2.out
                show SetM _ _ _ _
                rw [HA.out]
                refine Eq.mp ?_ h1
                congr 1
                funext y
                by_cases e : y = x
                · subst e
                  rw [h2]
                  simp
                · simp [e]
            case measure => simp [intOf]; omega
        · have hlt2' : ¬ (i : Int) < n2 := by omega
          have HE2 : Hid (l.take i = l) := List.take_of_length_le (by rw [HL2.out]; omega)
          have HR : Hid (mostB m l = decide (z ≤ 0)) := by
            show _ = _
            have h1 := HZ.out
            have h2 := HL.out
            rw [HE2.out] at h1
            unfold mostB
            rw [decide_eq_decide, h2]
            omega
          go_wp2_with fail
          go_ret
          exact ⟨by rw [HR.out]; rfl, HK2.out⟩

end Go.Proofs.Ytddkaagdkmmknaa
