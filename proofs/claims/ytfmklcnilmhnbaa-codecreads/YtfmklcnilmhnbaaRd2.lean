/-
  A reading call: what is wrong within comes as a panic, which the deferred closure catches.
-/
import Derived.Test.YtfmklcnilmhnbaaRd1
import Derived.Defers
import Derived.Recover
namespace Go.Proofs.Ytfmklcnilmhnbaa
open Go.RowKit

theorem assert_errno (e : Int) (w : World) : Sem.run Try.prog (Instr.typeAssert (.iface 27 (.int .i64 e)) 20 27 true) w = .ok (.tuple #[.int .i64 e, .bool true]) w := by kernel_rfl

/-- What a step of a reader comes to: a value, and what is left; or a panic. -/
structure Step (p : Nat) (ao : Option Addr) (G : World → Value → List Int → Prop) (E : Int → Prop) (w : World) (r : Ending) (w' : World) : Prop where
  kept : Kept [p] w w'
  ends : (∃ x a c' rest, r = .returned x ∧ RdAt w' p (.slice a rest.length c') 0 ∧ Sl w' a rest.length c' rest ∧ (∀ k ∈ blk a, k ∈ blk ao) ∧ G w' x rest) ∨
    (∃ e v, r = .panicked [{ v := .iface 27 (.int .i64 e), recovered := false }] ∧ e ≠ 0 ∧ RdAt w' p v 0 ∧ E e)

/-- What a reading call comes to. -/
structure Done (p : Nat) (ao : Option Addr) (z : Value) (G : World → Value → List Int → Prop) (E : Int → Prop) (w : World) (r : Ending) (w' : World) : Prop where
  kept : Kept [p] w w'
  ends : ∃ x a c' rest e, r = .returned x ∧ RdAt w' p (.slice a rest.length c') e ∧ Sl w' a rest.length c' rest ∧ (∀ k ∈ blk a, k ∈ blk ao) ∧
    ((e = 0 ∧ G w' x rest) ∨ (e ≠ 0 ∧ E e ∧ x = z ∧ rest = []))

set_option maxHeartbeats 1000000 in
theorem catchInt (w : World) (q p : Nat) (v : Value) (e : Int) (older : List PanicEntry) (hq : w.cell? ⟨q, 0, none⟩ = some (.pointer (some ⟨p, 0, none⟩))) (h : RdAt w p v 0) :
    CallsD Try.prog 76 #[.pointer (some ⟨q, 0, none⟩)] (.panicking ({ v := .iface 27 (.int .i64 e), recovered := false } :: older)) w fun r u' w' =>
      r = .returned (.tuple #[]) ∧ u' = .panicking ({ v := .iface 27 (.int .i64 e), recovered := true } :: older) ∧ RdAt w' p (.slice none 0 0) e ∧ Kept [p] w w' := by
  have HR : Hid (RdAt w p v 0) := h
  clear h
  have hta := assert_errno e
  refine callsD_of_wpS Try.func76 rfl fun c₀ cs hu => ?_
  apply wpS_seq
  apply wpS_region
  simp [wpOpsS, go_sem, recoverD, hu, Try.ntmps76, Exit.thenS, Array.replicate, List.replicate]
  refine wpS_of_wp ?_
  go_wp2_with (go_at_call 77; refine (rfail_any _ _ _ _ _ HR.out).mono ?_; rintro _ w1 ⟨rfl, hR1, hk1⟩)
  exact ⟨rfl, _, rfl, _, by simp [results, Try.results76, go_sem], rfl, rfl, hR1, hk1⟩

set_option maxHeartbeats 1000000 in
theorem idleInt (w : World) (q : Nat) :
    CallsD Try.prog 76 #[.pointer (some ⟨q, 0, none⟩)] .returning w fun r u' w' => r = .returned (.tuple #[]) ∧ u' = .returning ∧ w' = w := by
  refine callsD_of_wpS Try.func76 rfl fun c₀ cs hu => ?_
  apply wpS_seq
  apply wpS_region
  simp [wpOpsS, go_sem, recoverD, hu, Try.ntmps76, Exit.thenS, Array.replicate, List.replicate]
  refine wpS_of_wp ?_
  go_wp2
  cases c₀
  simp_all [bodyPostS, results, Try.results76]

set_option maxHeartbeats 1000000 in
/-- A reading step that comes to a value, or to a panic: what the call comes to. -/
theorem readInt (w : World) (p : Nat) (ao : Option Addr) (n c : Nat) (l : List Int) (hR : RdAt w p (.slice ao n c) 0) (hs : Sl w ao n c l)
    (f : Nat) (hcf : ∀ (a : Array Value) (w : World), Sem.run Try.prog (callFunc f a) w = .ok (.enter f a) w) (cap : Array Value) (G : World → Value → List Int → Prop) (E : Int → Prop)
    (hstep : ∀ w1, Kept [] w w1 → RdAt w1 p (.slice ao n c) 0 → Sl w1 ao n c l → Calls Try.prog f (#[.pointer (some ⟨p, 0, none⟩)] ++ cap) w1 (Step p ao G E w1)) :
    Calls Try.prog 35 #[.pointer (some ⟨p, 0, none⟩), .func (.func f) #[] cap] w (Done p ao (.int .i64 0) G E w) := by
  have hmf : ∀ (fn : Fn) (first cap : Array Value) (w : World), (Instr.makeFunc fn first cap).run Try.prog w = .ok (.func fn first cap) w := fun _ _ _ _ => rfl
  have hK : Kept [p] w (w.alloc (.cells #[.pointer (some ⟨p, 0, none⟩)] 23)) := (Kept.refl _ _).alloc _
  have hR1 : RdAt (w.alloc (.cells #[.pointer (some ⟨p, 0, none⟩)] 23)) p (.slice ao n c) 0 := (show Kept [] w _ from (Kept.refl _ _).alloc _).at hR (by simp)
  have hs1 : Sl (w.alloc (.cells #[.pointer (some ⟨p, 0, none⟩)] 23)) ao n c l := Sl.kept (show Kept [] w _ from (Kept.refl _ _).alloc _) hs (by simp)
  have HST : Hid (Calls Try.prog f (#[.pointer (some ⟨p, 0, none⟩)] ++ cap) (w.alloc (.cells #[.pointer (some ⟨p, 0, none⟩)] 23)) (Step p ao G E (w.alloc (.cells #[.pointer (some ⟨p, 0, none⟩)] 23)))) := hstep _ ((Kept.refl _ _).alloc _) hR1 hs1
  have hq : (w.alloc (.cells #[.pointer (some ⟨p, 0, none⟩)] 23)).cell? ⟨w.heap.size, 0, none⟩ = some (.pointer (some ⟨p, 0, none⟩)) := by simp
  have hpw : p < w.heap.size := lt_of_at hR
  have HR1 := hR1
  clear hstep hs hs1 hR
  go_enter_defers Try.func35, Try.ntmps35
  go_wp2_with fail
  refine (fail_any _ _ _ _ hR1).mono ?_
  rintro _ _ ⟨rfl, rfl⟩
  go_wp2_with fail
  refine HST.out.mono ?_
  rintro r w1 ⟨hk1, ⟨x, a, c', rest, rfl, hR2, hs2, hb2, hG⟩ | ⟨e, v, rfl, he, hR2, hE⟩⟩
  · go_wp2
    refine leaves_cons (f := 76) (args := #[.pointer (some ⟨w.heap.size, 0, none⟩)]) (by simp) (by simp [go_sem]) ?_
    refine (idleInt _ _).mono ?_
    rintro e u' w'' ⟨rfl, rfl, rfl⟩
    refine ⟨_, results_tmp rfl _ _ _, ?_⟩
    exact ⟨hK.trans hk1 (by simp), x, a, c', rest, 0, rfl, hR2, hs2, hb2, .inl ⟨rfl, hG⟩⟩
  · go_wp2
    refine leaves_cons (f := 76) (args := #[.pointer (some ⟨w.heap.size, 0, none⟩)]) (by simp) (by simp [go_sem]) ?_
    refine (catchInt _ _ p v e [] (hk1.cell hq (by simp; omega)) hR2).mono ?_
    rintro _ u' w'' ⟨rfl, rfl, hR3, hk3⟩
    refine ⟨_, results_tmp rfl _ _ _, ?_⟩
    exact ⟨(hK.trans hk1 (by simp)).trans hk3 (by simp), .int .i64 0, none, 0, [], e, rfl, hR3, Sl.nil _, by simp [blk], .inr ⟨he, hE, rfl, rfl⟩⟩

set_option maxHeartbeats 1000000 in
/-- A reader that has failed reads nothing. -/
theorem readInt_failed (w : World) (p : Nat) (v : Value) (e : Int) (hR : RdAt w p v e) (he : e ≠ 0) (fv : Value) :
    Calls Try.prog 35 #[.pointer (some ⟨p, 0, none⟩), fv] w fun r w' => r = .returned (.int .i64 0) ∧ Kept [] w w' := by
  have hK : Kept [] w (w.alloc (.cells #[.pointer (some ⟨p, 0, none⟩)] 23)) := (Kept.refl _ _).alloc _
  have hR1 : RdAt (w.alloc (.cells #[.pointer (some ⟨p, 0, none⟩)] 23)) p v e := hK.at hR (by simp)
  have heb : (e != 0) = true := by simp [he]
  clear he
  go_enter Try.func35, Try.ntmps35
  go_wp2_with fail
  refine (fail_any _ _ _ _ hR1).mono ?_
  rintro _ _ ⟨rfl, rfl⟩
  go_wp2
  go_ret
  exact ⟨rfl, hK⟩

set_option maxHeartbeats 1000000 in
theorem catchStr (w : World) (q p : Nat) (v : Value) (e : Int) (older : List PanicEntry) (hq : w.cell? ⟨q, 0, none⟩ = some (.pointer (some ⟨p, 0, none⟩))) (h : RdAt w p v 0) :
    CallsD Try.prog 83 #[.pointer (some ⟨q, 0, none⟩)] (.panicking ({ v := .iface 27 (.int .i64 e), recovered := false } :: older)) w fun r u' w' =>
      r = .returned (.tuple #[]) ∧ u' = .panicking ({ v := .iface 27 (.int .i64 e), recovered := true } :: older) ∧ RdAt w' p (.slice none 0 0) e ∧ Kept [p] w w' := by
  have HR : Hid (RdAt w p v 0) := h
  clear h
  have hta := assert_errno e
  refine callsD_of_wpS Try.func83 rfl fun c₀ cs hu => ?_
  apply wpS_seq
  apply wpS_region
  simp [wpOpsS, go_sem, recoverD, hu, Try.ntmps83, Exit.thenS, Array.replicate, List.replicate]
  refine wpS_of_wp ?_
  go_wp2_with (go_at_call 77; refine (rfail_any _ _ _ _ _ HR.out).mono ?_; rintro _ w1 ⟨rfl, hR1, hk1⟩)
  exact ⟨rfl, _, rfl, _, by simp [results, Try.results83, go_sem], rfl, rfl, hR1, hk1⟩

set_option maxHeartbeats 1000000 in
theorem idleStr (w : World) (q : Nat) :
    CallsD Try.prog 83 #[.pointer (some ⟨q, 0, none⟩)] .returning w fun r u' w' => r = .returned (.tuple #[]) ∧ u' = .returning ∧ w' = w := by
  refine callsD_of_wpS Try.func83 rfl fun c₀ cs hu => ?_
  apply wpS_seq
  apply wpS_region
  simp [wpOpsS, go_sem, recoverD, hu, Try.ntmps83, Exit.thenS, Array.replicate, List.replicate]
  refine wpS_of_wp ?_
  go_wp2
  cases c₀
  simp_all [bodyPostS, results, Try.results83]

set_option maxHeartbeats 1000000 in
/-- A reading step that comes to a value, or to a panic: what the call comes to. -/
theorem readStr (w : World) (p : Nat) (ao : Option Addr) (n c : Nat) (l : List Int) (hR : RdAt w p (.slice ao n c) 0) (hs : Sl w ao n c l)
    (f : Nat) (hcf : ∀ (a : Array Value) (w : World), Sem.run Try.prog (callFunc f a) w = .ok (.enter f a) w) (cap : Array Value) (G : World → Value → List Int → Prop) (E : Int → Prop)
    (hstep : ∀ w1, Kept [] w w1 → RdAt w1 p (.slice ao n c) 0 → Sl w1 ao n c l → Calls Try.prog f (#[.pointer (some ⟨p, 0, none⟩)] ++ cap) w1 (Step p ao G E w1)) :
    Calls Try.prog 61 #[.pointer (some ⟨p, 0, none⟩), .func (.func f) #[] cap] w (Done p ao (.string ByteArray.empty) G E w) := by
  have hmf : ∀ (fn : Fn) (first cap : Array Value) (w : World), (Instr.makeFunc fn first cap).run Try.prog w = .ok (.func fn first cap) w := fun _ _ _ _ => rfl
  have hK : Kept [p] w (w.alloc (.cells #[.pointer (some ⟨p, 0, none⟩)] 23)) := (Kept.refl _ _).alloc _
  have hR1 : RdAt (w.alloc (.cells #[.pointer (some ⟨p, 0, none⟩)] 23)) p (.slice ao n c) 0 := (show Kept [] w _ from (Kept.refl _ _).alloc _).at hR (by simp)
  have hs1 : Sl (w.alloc (.cells #[.pointer (some ⟨p, 0, none⟩)] 23)) ao n c l := Sl.kept (show Kept [] w _ from (Kept.refl _ _).alloc _) hs (by simp)
  have HST : Hid (Calls Try.prog f (#[.pointer (some ⟨p, 0, none⟩)] ++ cap) (w.alloc (.cells #[.pointer (some ⟨p, 0, none⟩)] 23)) (Step p ao G E (w.alloc (.cells #[.pointer (some ⟨p, 0, none⟩)] 23)))) := hstep _ ((Kept.refl _ _).alloc _) hR1 hs1
  have hq : (w.alloc (.cells #[.pointer (some ⟨p, 0, none⟩)] 23)).cell? ⟨w.heap.size, 0, none⟩ = some (.pointer (some ⟨p, 0, none⟩)) := by simp
  have hpw : p < w.heap.size := lt_of_at hR
  have HR1 := hR1
  clear hstep hs hs1 hR
  go_enter_defers Try.func61, Try.ntmps61
  go_wp2_with fail
  refine (fail_any _ _ _ _ hR1).mono ?_
  rintro _ _ ⟨rfl, rfl⟩
  go_wp2_with fail
  refine HST.out.mono ?_
  rintro r w1 ⟨hk1, ⟨x, a, c', rest, rfl, hR2, hs2, hb2, hG⟩ | ⟨e, v, rfl, he, hR2, hE⟩⟩
  · go_wp2
    refine leaves_cons (f := 83) (args := #[.pointer (some ⟨w.heap.size, 0, none⟩)]) (by simp) (by simp [go_sem]) ?_
    refine (idleStr _ _).mono ?_
    rintro e u' w'' ⟨rfl, rfl, rfl⟩
    refine ⟨_, results_tmp rfl _ _ _, ?_⟩
    exact ⟨hK.trans hk1 (by simp), x, a, c', rest, 0, rfl, hR2, hs2, hb2, .inl ⟨rfl, hG⟩⟩
  · go_wp2
    refine leaves_cons (f := 83) (args := #[.pointer (some ⟨w.heap.size, 0, none⟩)]) (by simp) (by simp [go_sem]) ?_
    refine (catchStr _ _ p v e [] (hk1.cell hq (by simp; omega)) hR2).mono ?_
    rintro _ u' w'' ⟨rfl, rfl, hR3, hk3⟩
    refine ⟨_, results_tmp rfl _ _ _, ?_⟩
    exact ⟨(hK.trans hk1 (by simp)).trans hk3 (by simp), .string ByteArray.empty, none, 0, [], e, rfl, hR3, Sl.nil _, by simp [blk], .inr ⟨he, hE, rfl, rfl⟩⟩

set_option maxHeartbeats 1000000 in
/-- A reader that has failed reads nothing. -/
theorem readStr_failed (w : World) (p : Nat) (v : Value) (e : Int) (hR : RdAt w p v e) (he : e ≠ 0) (fv : Value) :
    Calls Try.prog 61 #[.pointer (some ⟨p, 0, none⟩), fv] w fun r w' => r = .returned (.string ByteArray.empty) ∧ Kept [] w w' := by
  have hK : Kept [] w (w.alloc (.cells #[.pointer (some ⟨p, 0, none⟩)] 23)) := (Kept.refl _ _).alloc _
  have hR1 : RdAt (w.alloc (.cells #[.pointer (some ⟨p, 0, none⟩)] 23)) p v e := hK.at hR (by simp)
  have heb : (e != 0) = true := by simp [he]
  clear he
  go_enter Try.func61, Try.ntmps61
  go_wp2_with fail
  refine (fail_any _ _ _ _ hR1).mono ?_
  rintro _ _ ⟨rfl, rfl⟩
  go_wp2
  go_ret
  exact ⟨rfl, hK⟩

set_option maxHeartbeats 1000000 in
theorem catchByt (w : World) (q p : Nat) (v : Value) (e : Int) (older : List PanicEntry) (hq : w.cell? ⟨q, 0, none⟩ = some (.pointer (some ⟨p, 0, none⟩))) (h : RdAt w p v 0) :
    CallsD Try.prog 84 #[.pointer (some ⟨q, 0, none⟩)] (.panicking ({ v := .iface 27 (.int .i64 e), recovered := false } :: older)) w fun r u' w' =>
      r = .returned (.tuple #[]) ∧ u' = .panicking ({ v := .iface 27 (.int .i64 e), recovered := true } :: older) ∧ RdAt w' p (.slice none 0 0) e ∧ Kept [p] w w' := by
  have HR : Hid (RdAt w p v 0) := h
  clear h
  have hta := assert_errno e
  refine callsD_of_wpS Try.func84 rfl fun c₀ cs hu => ?_
  apply wpS_seq
  apply wpS_region
  simp [wpOpsS, go_sem, recoverD, hu, Try.ntmps84, Exit.thenS, Array.replicate, List.replicate]
  refine wpS_of_wp ?_
  go_wp2_with (go_at_call 77; refine (rfail_any _ _ _ _ _ HR.out).mono ?_; rintro _ w1 ⟨rfl, hR1, hk1⟩)
  exact ⟨rfl, _, rfl, _, by simp [results, Try.results84, go_sem], rfl, rfl, hR1, hk1⟩

set_option maxHeartbeats 1000000 in
theorem idleByt (w : World) (q : Nat) :
    CallsD Try.prog 84 #[.pointer (some ⟨q, 0, none⟩)] .returning w fun r u' w' => r = .returned (.tuple #[]) ∧ u' = .returning ∧ w' = w := by
  refine callsD_of_wpS Try.func84 rfl fun c₀ cs hu => ?_
  apply wpS_seq
  apply wpS_region
  simp [wpOpsS, go_sem, recoverD, hu, Try.ntmps84, Exit.thenS, Array.replicate, List.replicate]
  refine wpS_of_wp ?_
  go_wp2
  cases c₀
  simp_all [bodyPostS, results, Try.results84]

set_option maxHeartbeats 1000000 in
/-- A reading step that comes to a value, or to a panic: what the call comes to. -/
theorem readByt (w : World) (p : Nat) (ao : Option Addr) (n c : Nat) (l : List Int) (hR : RdAt w p (.slice ao n c) 0) (hs : Sl w ao n c l)
    (f : Nat) (hcf : ∀ (a : Array Value) (w : World), Sem.run Try.prog (callFunc f a) w = .ok (.enter f a) w) (cap : Array Value) (G : World → Value → List Int → Prop) (E : Int → Prop)
    (hstep : ∀ w1, Kept [] w w1 → RdAt w1 p (.slice ao n c) 0 → Sl w1 ao n c l → Calls Try.prog f (#[.pointer (some ⟨p, 0, none⟩)] ++ cap) w1 (Step p ao G E w1)) :
    Calls Try.prog 64 #[.pointer (some ⟨p, 0, none⟩), .func (.func f) #[] cap] w (Done p ao (.slice none 0 0) G E w) := by
  have hmf : ∀ (fn : Fn) (first cap : Array Value) (w : World), (Instr.makeFunc fn first cap).run Try.prog w = .ok (.func fn first cap) w := fun _ _ _ _ => rfl
  have hK : Kept [p] w (w.alloc (.cells #[.pointer (some ⟨p, 0, none⟩)] 23)) := (Kept.refl _ _).alloc _
  have hR1 : RdAt (w.alloc (.cells #[.pointer (some ⟨p, 0, none⟩)] 23)) p (.slice ao n c) 0 := (show Kept [] w _ from (Kept.refl _ _).alloc _).at hR (by simp)
  have hs1 : Sl (w.alloc (.cells #[.pointer (some ⟨p, 0, none⟩)] 23)) ao n c l := Sl.kept (show Kept [] w _ from (Kept.refl _ _).alloc _) hs (by simp)
  have HST : Hid (Calls Try.prog f (#[.pointer (some ⟨p, 0, none⟩)] ++ cap) (w.alloc (.cells #[.pointer (some ⟨p, 0, none⟩)] 23)) (Step p ao G E (w.alloc (.cells #[.pointer (some ⟨p, 0, none⟩)] 23)))) := hstep _ ((Kept.refl _ _).alloc _) hR1 hs1
  have hq : (w.alloc (.cells #[.pointer (some ⟨p, 0, none⟩)] 23)).cell? ⟨w.heap.size, 0, none⟩ = some (.pointer (some ⟨p, 0, none⟩)) := by simp
  have hpw : p < w.heap.size := lt_of_at hR
  have HR1 := hR1
  clear hstep hs hs1 hR
  go_enter_defers Try.func64, Try.ntmps64
  go_wp2_with fail
  refine (fail_any _ _ _ _ hR1).mono ?_
  rintro _ _ ⟨rfl, rfl⟩
  go_wp2_with fail
  refine HST.out.mono ?_
  rintro r w1 ⟨hk1, ⟨x, a, c', rest, rfl, hR2, hs2, hb2, hG⟩ | ⟨e, v, rfl, he, hR2, hE⟩⟩
  · go_wp2
    refine leaves_cons (f := 84) (args := #[.pointer (some ⟨w.heap.size, 0, none⟩)]) (by simp) (by simp [go_sem]) ?_
    refine (idleByt _ _).mono ?_
    rintro e u' w'' ⟨rfl, rfl, rfl⟩
    refine ⟨_, results_tmp rfl _ _ _, ?_⟩
    exact ⟨hK.trans hk1 (by simp), x, a, c', rest, 0, rfl, hR2, hs2, hb2, .inl ⟨rfl, hG⟩⟩
  · go_wp2
    refine leaves_cons (f := 84) (args := #[.pointer (some ⟨w.heap.size, 0, none⟩)]) (by simp) (by simp [go_sem]) ?_
    refine (catchByt _ _ p v e [] (hk1.cell hq (by simp; omega)) hR2).mono ?_
    rintro _ u' w'' ⟨rfl, rfl, hR3, hk3⟩
    refine ⟨_, results_tmp rfl _ _ _, ?_⟩
    exact ⟨(hK.trans hk1 (by simp)).trans hk3 (by simp), .slice none 0 0, none, 0, [], e, rfl, hR3, Sl.nil _, by simp [blk], .inr ⟨he, hE, rfl, rfl⟩⟩

set_option maxHeartbeats 1000000 in
/-- A reader that has failed reads nothing. -/
theorem readByt_failed (w : World) (p : Nat) (v : Value) (e : Int) (hR : RdAt w p v e) (he : e ≠ 0) (fv : Value) :
    Calls Try.prog 64 #[.pointer (some ⟨p, 0, none⟩), fv] w fun r w' => r = .returned (.slice none 0 0) ∧ Kept [] w w' := by
  have hK : Kept [] w (w.alloc (.cells #[.pointer (some ⟨p, 0, none⟩)] 23)) := (Kept.refl _ _).alloc _
  have hR1 : RdAt (w.alloc (.cells #[.pointer (some ⟨p, 0, none⟩)] 23)) p v e := hK.at hR (by simp)
  have heb : (e != 0) = true := by simp [he]
  clear he
  go_enter Try.func64, Try.ntmps64
  go_wp2_with fail
  refine (fail_any _ _ _ _ hR1).mono ?_
  rintro _ _ ⟨rfl, rfl⟩
  go_wp2
  go_ret
  exact ⟨rfl, hK⟩

set_option maxHeartbeats 1000000 in
theorem catchBoo (w : World) (q p : Nat) (v : Value) (e : Int) (older : List PanicEntry) (hq : w.cell? ⟨q, 0, none⟩ = some (.pointer (some ⟨p, 0, none⟩))) (h : RdAt w p v 0) :
    CallsD Try.prog 85 #[.pointer (some ⟨q, 0, none⟩)] (.panicking ({ v := .iface 27 (.int .i64 e), recovered := false } :: older)) w fun r u' w' =>
      r = .returned (.tuple #[]) ∧ u' = .panicking ({ v := .iface 27 (.int .i64 e), recovered := true } :: older) ∧ RdAt w' p (.slice none 0 0) e ∧ Kept [p] w w' := by
  have HR : Hid (RdAt w p v 0) := h
  clear h
  have hta := assert_errno e
  refine callsD_of_wpS Try.func85 rfl fun c₀ cs hu => ?_
  apply wpS_seq
  apply wpS_region
  simp [wpOpsS, go_sem, recoverD, hu, Try.ntmps85, Exit.thenS, Array.replicate, List.replicate]
  refine wpS_of_wp ?_
  go_wp2_with (go_at_call 77; refine (rfail_any _ _ _ _ _ HR.out).mono ?_; rintro _ w1 ⟨rfl, hR1, hk1⟩)
  exact ⟨rfl, _, rfl, _, by simp [results, Try.results85, go_sem], rfl, rfl, hR1, hk1⟩

set_option maxHeartbeats 1000000 in
theorem idleBoo (w : World) (q : Nat) :
    CallsD Try.prog 85 #[.pointer (some ⟨q, 0, none⟩)] .returning w fun r u' w' => r = .returned (.tuple #[]) ∧ u' = .returning ∧ w' = w := by
  refine callsD_of_wpS Try.func85 rfl fun c₀ cs hu => ?_
  apply wpS_seq
  apply wpS_region
  simp [wpOpsS, go_sem, recoverD, hu, Try.ntmps85, Exit.thenS, Array.replicate, List.replicate]
  refine wpS_of_wp ?_
  go_wp2
  cases c₀
  simp_all [bodyPostS, results, Try.results85]

set_option maxHeartbeats 1000000 in
/-- A reading step that comes to a value, or to a panic: what the call comes to. -/
theorem readBoo (w : World) (p : Nat) (ao : Option Addr) (n c : Nat) (l : List Int) (hR : RdAt w p (.slice ao n c) 0) (hs : Sl w ao n c l)
    (f : Nat) (hcf : ∀ (a : Array Value) (w : World), Sem.run Try.prog (callFunc f a) w = .ok (.enter f a) w) (cap : Array Value) (G : World → Value → List Int → Prop) (E : Int → Prop)
    (hstep : ∀ w1, Kept [] w w1 → RdAt w1 p (.slice ao n c) 0 → Sl w1 ao n c l → Calls Try.prog f (#[.pointer (some ⟨p, 0, none⟩)] ++ cap) w1 (Step p ao G E w1)) :
    Calls Try.prog 66 #[.pointer (some ⟨p, 0, none⟩), .func (.func f) #[] cap] w (Done p ao (.bool false) G E w) := by
  have hmf : ∀ (fn : Fn) (first cap : Array Value) (w : World), (Instr.makeFunc fn first cap).run Try.prog w = .ok (.func fn first cap) w := fun _ _ _ _ => rfl
  have hK : Kept [p] w (w.alloc (.cells #[.pointer (some ⟨p, 0, none⟩)] 23)) := (Kept.refl _ _).alloc _
  have hR1 : RdAt (w.alloc (.cells #[.pointer (some ⟨p, 0, none⟩)] 23)) p (.slice ao n c) 0 := (show Kept [] w _ from (Kept.refl _ _).alloc _).at hR (by simp)
  have hs1 : Sl (w.alloc (.cells #[.pointer (some ⟨p, 0, none⟩)] 23)) ao n c l := Sl.kept (show Kept [] w _ from (Kept.refl _ _).alloc _) hs (by simp)
  have HST : Hid (Calls Try.prog f (#[.pointer (some ⟨p, 0, none⟩)] ++ cap) (w.alloc (.cells #[.pointer (some ⟨p, 0, none⟩)] 23)) (Step p ao G E (w.alloc (.cells #[.pointer (some ⟨p, 0, none⟩)] 23)))) := hstep _ ((Kept.refl _ _).alloc _) hR1 hs1
  have hq : (w.alloc (.cells #[.pointer (some ⟨p, 0, none⟩)] 23)).cell? ⟨w.heap.size, 0, none⟩ = some (.pointer (some ⟨p, 0, none⟩)) := by simp
  have hpw : p < w.heap.size := lt_of_at hR
  have HR1 := hR1
  clear hstep hs hs1 hR
  go_enter_defers Try.func66, Try.ntmps66
  go_wp2_with fail
  refine (fail_any _ _ _ _ hR1).mono ?_
  rintro _ _ ⟨rfl, rfl⟩
  go_wp2_with fail
  refine HST.out.mono ?_
  rintro r w1 ⟨hk1, ⟨x, a, c', rest, rfl, hR2, hs2, hb2, hG⟩ | ⟨e, v, rfl, he, hR2, hE⟩⟩
  · go_wp2
    refine leaves_cons (f := 85) (args := #[.pointer (some ⟨w.heap.size, 0, none⟩)]) (by simp) (by simp [go_sem]) ?_
    refine (idleBoo _ _).mono ?_
    rintro e u' w'' ⟨rfl, rfl, rfl⟩
    refine ⟨_, results_tmp rfl _ _ _, ?_⟩
    exact ⟨hK.trans hk1 (by simp), x, a, c', rest, 0, rfl, hR2, hs2, hb2, .inl ⟨rfl, hG⟩⟩
  · go_wp2
    refine leaves_cons (f := 85) (args := #[.pointer (some ⟨w.heap.size, 0, none⟩)]) (by simp) (by simp [go_sem]) ?_
    refine (catchBoo _ _ p v e [] (hk1.cell hq (by simp; omega)) hR2).mono ?_
    rintro _ u' w'' ⟨rfl, rfl, hR3, hk3⟩
    refine ⟨_, results_tmp rfl _ _ _, ?_⟩
    exact ⟨(hK.trans hk1 (by simp)).trans hk3 (by simp), .bool false, none, 0, [], e, rfl, hR3, Sl.nil _, by simp [blk], .inr ⟨he, hE, rfl, rfl⟩⟩

set_option maxHeartbeats 1000000 in
/-- A reader that has failed reads nothing. -/
theorem readBoo_failed (w : World) (p : Nat) (v : Value) (e : Int) (hR : RdAt w p v e) (he : e ≠ 0) (fv : Value) :
    Calls Try.prog 66 #[.pointer (some ⟨p, 0, none⟩), fv] w fun r w' => r = .returned (.bool false) ∧ Kept [] w w' := by
  have hK : Kept [] w (w.alloc (.cells #[.pointer (some ⟨p, 0, none⟩)] 23)) := (Kept.refl _ _).alloc _
  have hR1 : RdAt (w.alloc (.cells #[.pointer (some ⟨p, 0, none⟩)] 23)) p v e := hK.at hR (by simp)
  have heb : (e != 0) = true := by simp [he]
  clear he
  go_enter Try.func66, Try.ntmps66
  go_wp2_with fail
  refine (fail_any _ _ _ _ hR1).mono ?_
  rintro _ _ ⟨rfl, rfl⟩
  go_wp2
  go_ret
  exact ⟨rfl, hK⟩

set_option maxHeartbeats 1000000 in
theorem catchWor (w : World) (q p : Nat) (v : Value) (e : Int) (older : List PanicEntry) (hq : w.cell? ⟨q, 0, none⟩ = some (.pointer (some ⟨p, 0, none⟩))) (h : RdAt w p v 0) :
    CallsD Try.prog 86 #[.pointer (some ⟨q, 0, none⟩)] (.panicking ({ v := .iface 27 (.int .i64 e), recovered := false } :: older)) w fun r u' w' =>
      r = .returned (.tuple #[]) ∧ u' = .panicking ({ v := .iface 27 (.int .i64 e), recovered := true } :: older) ∧ RdAt w' p (.slice none 0 0) e ∧ Kept [p] w w' := by
  have HR : Hid (RdAt w p v 0) := h
  clear h
  have hta := assert_errno e
  refine callsD_of_wpS Try.func86 rfl fun c₀ cs hu => ?_
  apply wpS_seq
  apply wpS_region
  simp [wpOpsS, go_sem, recoverD, hu, Try.ntmps86, Exit.thenS, Array.replicate, List.replicate]
  refine wpS_of_wp ?_
  go_wp2_with (go_at_call 77; refine (rfail_any _ _ _ _ _ HR.out).mono ?_; rintro _ w1 ⟨rfl, hR1, hk1⟩)
  exact ⟨rfl, _, rfl, _, by simp [results, Try.results86, go_sem], rfl, rfl, hR1, hk1⟩

set_option maxHeartbeats 1000000 in
theorem idleWor (w : World) (q : Nat) :
    CallsD Try.prog 86 #[.pointer (some ⟨q, 0, none⟩)] .returning w fun r u' w' => r = .returned (.tuple #[]) ∧ u' = .returning ∧ w' = w := by
  refine callsD_of_wpS Try.func86 rfl fun c₀ cs hu => ?_
  apply wpS_seq
  apply wpS_region
  simp [wpOpsS, go_sem, recoverD, hu, Try.ntmps86, Exit.thenS, Array.replicate, List.replicate]
  refine wpS_of_wp ?_
  go_wp2
  cases c₀
  simp_all [bodyPostS, results, Try.results86]

set_option maxHeartbeats 1000000 in
/-- A reading step that comes to a value, or to a panic: what the call comes to. -/
theorem readWor (w : World) (p : Nat) (ao : Option Addr) (n c : Nat) (l : List Int) (hR : RdAt w p (.slice ao n c) 0) (hs : Sl w ao n c l)
    (f : Nat) (hcf : ∀ (a : Array Value) (w : World), Sem.run Try.prog (callFunc f a) w = .ok (.enter f a) w) (cap : Array Value) (G : World → Value → List Int → Prop) (E : Int → Prop)
    (hstep : ∀ w1, Kept [] w w1 → RdAt w1 p (.slice ao n c) 0 → Sl w1 ao n c l → Calls Try.prog f (#[.pointer (some ⟨p, 0, none⟩)] ++ cap) w1 (Step p ao G E w1)) :
    Calls Try.prog 68 #[.pointer (some ⟨p, 0, none⟩), .func (.func f) #[] cap] w (Done p ao (.int .u64 0) G E w) := by
  have hmf : ∀ (fn : Fn) (first cap : Array Value) (w : World), (Instr.makeFunc fn first cap).run Try.prog w = .ok (.func fn first cap) w := fun _ _ _ _ => rfl
  have hK : Kept [p] w (w.alloc (.cells #[.pointer (some ⟨p, 0, none⟩)] 23)) := (Kept.refl _ _).alloc _
  have hR1 : RdAt (w.alloc (.cells #[.pointer (some ⟨p, 0, none⟩)] 23)) p (.slice ao n c) 0 := (show Kept [] w _ from (Kept.refl _ _).alloc _).at hR (by simp)
  have hs1 : Sl (w.alloc (.cells #[.pointer (some ⟨p, 0, none⟩)] 23)) ao n c l := Sl.kept (show Kept [] w _ from (Kept.refl _ _).alloc _) hs (by simp)
  have HST : Hid (Calls Try.prog f (#[.pointer (some ⟨p, 0, none⟩)] ++ cap) (w.alloc (.cells #[.pointer (some ⟨p, 0, none⟩)] 23)) (Step p ao G E (w.alloc (.cells #[.pointer (some ⟨p, 0, none⟩)] 23)))) := hstep _ ((Kept.refl _ _).alloc _) hR1 hs1
  have hq : (w.alloc (.cells #[.pointer (some ⟨p, 0, none⟩)] 23)).cell? ⟨w.heap.size, 0, none⟩ = some (.pointer (some ⟨p, 0, none⟩)) := by simp
  have hpw : p < w.heap.size := lt_of_at hR
  have HR1 := hR1
  clear hstep hs hs1 hR
  go_enter_defers Try.func68, Try.ntmps68
  go_wp2_with fail
  refine (fail_any _ _ _ _ hR1).mono ?_
  rintro _ _ ⟨rfl, rfl⟩
  go_wp2_with fail
  refine HST.out.mono ?_
  rintro r w1 ⟨hk1, ⟨x, a, c', rest, rfl, hR2, hs2, hb2, hG⟩ | ⟨e, v, rfl, he, hR2, hE⟩⟩
  · go_wp2
    refine leaves_cons (f := 86) (args := #[.pointer (some ⟨w.heap.size, 0, none⟩)]) (by simp) (by simp [go_sem]) ?_
    refine (idleWor _ _).mono ?_
    rintro e u' w'' ⟨rfl, rfl, rfl⟩
    refine ⟨_, results_tmp rfl _ _ _, ?_⟩
    exact ⟨hK.trans hk1 (by simp), x, a, c', rest, 0, rfl, hR2, hs2, hb2, .inl ⟨rfl, hG⟩⟩
  · go_wp2
    refine leaves_cons (f := 86) (args := #[.pointer (some ⟨w.heap.size, 0, none⟩)]) (by simp) (by simp [go_sem]) ?_
    refine (catchWor _ _ p v e [] (hk1.cell hq (by simp; omega)) hR2).mono ?_
    rintro _ u' w'' ⟨rfl, rfl, hR3, hk3⟩
    refine ⟨_, results_tmp rfl _ _ _, ?_⟩
    exact ⟨(hK.trans hk1 (by simp)).trans hk3 (by simp), .int .u64 0, none, 0, [], e, rfl, hR3, Sl.nil _, by simp [blk], .inr ⟨he, hE, rfl, rfl⟩⟩

set_option maxHeartbeats 1000000 in
/-- A reader that has failed reads nothing. -/
theorem readWor_failed (w : World) (p : Nat) (v : Value) (e : Int) (hR : RdAt w p v e) (he : e ≠ 0) (fv : Value) :
    Calls Try.prog 68 #[.pointer (some ⟨p, 0, none⟩), fv] w fun r w' => r = .returned (.int .u64 0) ∧ Kept [] w w' := by
  have hK : Kept [] w (w.alloc (.cells #[.pointer (some ⟨p, 0, none⟩)] 23)) := (Kept.refl _ _).alloc _
  have hR1 : RdAt (w.alloc (.cells #[.pointer (some ⟨p, 0, none⟩)] 23)) p v e := hK.at hR (by simp)
  have heb : (e != 0) = true := by simp [he]
  clear he
  go_enter Try.func68, Try.ntmps68
  go_wp2_with fail
  refine (fail_any _ _ _ _ hR1).mono ?_
  rintro _ _ ⟨rfl, rfl⟩
  go_wp2
  go_ret
  exact ⟨rfl, hK⟩


end Go.Proofs.Ytfmklcnilmhnbaa
