/-
  Texts of this claim that are laid as one: GrLand, GrLand2.
-/
import Derived.Test.YtfoghemiaidnhaaGreatGrUnc
import Derived.Test.YtfoghemiaidnhaaGreatM8
import Derived.Defers
import Derived.Recover
import Derived.Laws.Rows
/-
  Land: its deferred closure, and the whole.
-/
namespace Go.Proofs.YtfoghemiaidnhaaGreat
open Go.RowKit

/-- The cells of a verdict. -/
def vdA (v : Vd) (k : Value) : Array Value := #[.int .i64 v.c, .int .i64 0, .int .i64 v.r, .string (str v.p), .int .u64 v.d, k, .int .i64 0]

theorem assert_vd (x : Array Value) (w : World) : Sem.run Tryz.prog (Instr.typeAssert (.iface 28 (.agg x)) 20 28 true) w = .ok (.tuple #[.agg x, .bool true]) w := by kernel_rfl
theorem assert_none (w : World) : Sem.run Tryz.prog (Instr.typeAssert Value.nilIface 20 28 true) w = .ok (.tuple #[.agg #[.int .i64 0, .int .i64 0, .int .i64 0, .string ⟨#[]⟩, .int .u64 0, .slice none 0 0, .int .i64 0], .bool false]) w := by kernel_rfl

theorem cells7 {w : World} {b : Nat} {v0 v1 v2 v3 v4 v5 v6 : Value} {t : TypeId} (h : w.heap[b]? = some (.cells #[v0, v1, v2, v3, v4, v5, v6] t (0, 0))) :
    w.cell? ⟨b, 0, none⟩ = some v0 ∧ w.cell? ⟨b, 1, none⟩ = some v1 ∧ w.cell? ⟨b, 2, none⟩ = some v2 ∧ w.cell? ⟨b, 3, none⟩ = some v3 ∧ w.cell? ⟨b, 4, none⟩ = some v4 ∧ w.cell? ⟨b, 5, none⟩ = some v5 ∧ w.cell? ⟨b, 6, none⟩ = some v6 :=
  ⟨cell_in h rfl, cell_in h rfl, cell_in h rfl, cell_in h rfl, cell_in h rfl, cell_in h rfl, cell_in h rfl⟩

/-- Seven cells written one behind the other. -/
def set7w (w : World) (b : Nat) (u0 u1 u2 u3 u4 u5 u6 : Value) : World :=
  ((((((w.setCell ⟨b, 0, none⟩ u0).setCell ⟨b, 1, none⟩ u1).setCell ⟨b, 2, none⟩ u2).setCell ⟨b, 3, none⟩ u3).setCell ⟨b, 4, none⟩ u4).setCell ⟨b, 5, none⟩ u5).setCell ⟨b, 6, none⟩ u6

theorem set7 {w : World} {b : Nat} {v0 v1 v2 v3 v4 v5 v6 : Value} {t : TypeId} (h : w.heap[b]? = some (.cells #[v0, v1, v2, v3, v4, v5, v6] t (0, 0))) (u0 u1 u2 u3 u4 u5 u6 : Value) :
    (set7w w b u0 u1 u2 u3 u4 u5 u6).heap[b]? = some (.cells #[u0, u1, u2, u3, u4, u5, u6] t (0, 0)) := by
  have e0 : (w.setCell ⟨b, 0, none⟩ u0).heap[b]? = some (.cells #[u0, v1, v2, v3, v4, v5, v6] t (0, 0)) := heap_setCell_same _ b 0 _ _ u0 h
  have e1 : ((w.setCell ⟨b, 0, none⟩ u0).setCell ⟨b, 1, none⟩ u1).heap[b]? = some (.cells #[u0, u1, v2, v3, v4, v5, v6] t (0, 0)) := heap_setCell_same _ b 1 _ _ u1 e0
  have e2 : (((w.setCell ⟨b, 0, none⟩ u0).setCell ⟨b, 1, none⟩ u1).setCell ⟨b, 2, none⟩ u2).heap[b]? = some (.cells #[u0, u1, u2, v3, v4, v5, v6] t (0, 0)) := heap_setCell_same _ b 2 _ _ u2 e1
  have e3 : ((((w.setCell ⟨b, 0, none⟩ u0).setCell ⟨b, 1, none⟩ u1).setCell ⟨b, 2, none⟩ u2).setCell ⟨b, 3, none⟩ u3).heap[b]? = some (.cells #[u0, u1, u2, u3, v4, v5, v6] t (0, 0)) := heap_setCell_same _ b 3 _ _ u3 e2
  have e4 : (((((w.setCell ⟨b, 0, none⟩ u0).setCell ⟨b, 1, none⟩ u1).setCell ⟨b, 2, none⟩ u2).setCell ⟨b, 3, none⟩ u3).setCell ⟨b, 4, none⟩ u4).heap[b]? = some (.cells #[u0, u1, u2, u3, u4, v5, v6] t (0, 0)) := heap_setCell_same _ b 4 _ _ u4 e3
  have e5 : ((((((w.setCell ⟨b, 0, none⟩ u0).setCell ⟨b, 1, none⟩ u1).setCell ⟨b, 2, none⟩ u2).setCell ⟨b, 3, none⟩ u3).setCell ⟨b, 4, none⟩ u4).setCell ⟨b, 5, none⟩ u5).heap[b]? = some (.cells #[u0, u1, u2, u3, u4, u5, v6] t (0, 0)) := heap_setCell_same _ b 5 _ _ u5 e4
  have e6 : (((((((w.setCell ⟨b, 0, none⟩ u0).setCell ⟨b, 1, none⟩ u1).setCell ⟨b, 2, none⟩ u2).setCell ⟨b, 3, none⟩ u3).setCell ⟨b, 4, none⟩ u4).setCell ⟨b, 5, none⟩ u5).setCell ⟨b, 6, none⟩ u6).heap[b]? = some (.cells #[u0, u1, u2, u3, u4, u5, u6] t (0, 0)) := heap_setCell_same _ b 6 _ _ u6 e5
  exact e6

theorem set7_kept {S : List Nat} {a w : World} (h : Kept S a w) {b : Nat} (hb : b ∈ S ∨ a.heap.size ≤ b) (u0 u1 u2 u3 u4 u5 u6 : Value) : Kept S a (set7w w b u0 u1 u2 u3 u4 u5 u6) :=
  ((((((h.setCell hb u0).setCell hb u1).setCell hb u2).setCell hb u3).setCell hb u4).setCell hb u5).setCell hb u6

set_option maxHeartbeats 2000000 in
theorem land_catch (w : World) (q : Nat) (x : Vd) (older : List PanicEntry) (u0 u1 u2 u3 u4 u5 u6 : Value) (hq : w.heap[q]? = some (.cells #[u0, u1, u2, u3, u4, u5, u6] 28 (0, 0))) :
    CallsD Tryz.prog 27 #[.pointer (some ⟨q, 0, none⟩)] (.panicking ({ v := .iface 28 (vdV x), recovered := false } :: older)) w fun r u' w' =>
      r = .returned (.tuple #[]) ∧ u' = .panicking ({ v := .iface 28 (vdV x), recovered := true } :: older) ∧ w'.heap[q]? = some (.cells (vdA x (.slice none 0 0)) 28 (0, 0)) ∧ Kept [q] w w' := by
  have hta := fun W => assert_vd (vdA x (.slice none 0 0)) W
  unfold vdA at hta
  unfold vdV vdW
  refine callsD_of_wpS Tryz.func27 rfl fun c₀ cs hu => ?_
  apply wpS_seq
  apply wpS_region
  simp [wpOpsS, go_sem, recoverD, hu, Tryz.ntmps27, Exit.thenS, Array.replicate, List.replicate, hta]
  refine wpS_of_wp ?_
  have hlt := lt_of_at hq
  obtain ⟨c0, c1, c2, c3, c4, c5, c6⟩ := cells7 hq
  have f0 := frozen_in hq 0
  have f1 := frozen_in hq 1
  have f2 := frozen_in hq 2
  have f3 := frozen_in hq 3
  have f4 := frozen_in hq 4
  have f5 := frozen_in hq 5
  have f6 := frozen_in hq 6
  have HF : Hid (∀ ob, ((set7w w q (.int .i64 x.c) (.int .i64 0) (.int .i64 x.r) (.string (str x.p)) (.int .u64 x.d) (.slice none 0 0) (.int .i64 0)).alloc ob).heap[q]? = some (.cells (vdA x (.slice none 0 0)) 28 (0, 0)) ∧ Kept [q] w ((set7w w q (.int .i64 x.c) (.int .i64 0) (.int .i64 x.r) (.string (str x.p)) (.int .u64 x.d) (.slice none 0 0) (.int .i64 0)).alloc ob)) := fun ob =>
    ⟨(show Kept [] _ _ from (Kept.refl _ _).alloc ob).at (set7 hq _ _ _ _ _ _ _) (by simp), (set7_kept (Kept.refl _ _) (by simp) _ _ _ _ _ _ _).alloc ob⟩
  clear hq
  go_wp2
  exact ⟨rfl, _, rfl, _, by simp [results, Tryz.results27, go_sem], rfl, rfl, HF.out _⟩

set_option maxHeartbeats 2000000 in
theorem land_idle (w : World) (q : Nat) :
    CallsD Tryz.prog 27 #[.pointer (some ⟨q, 0, none⟩)] .returning w fun r u' w' => r = .returned (.tuple #[]) ∧ u' = .returning ∧ Kept [] w w' := by
  have hta := assert_none
  have HF : Hid (∀ ob, Kept [] w (w.alloc ob)) := fun ob => (Kept.refl _ _).alloc ob
  refine callsD_of_wpS Tryz.func27 rfl fun c₀ cs hu => ?_
  apply wpS_seq
  apply wpS_region
  simp [wpOpsS, go_sem, recoverD, hu, Tryz.ntmps27, Exit.thenS, Array.replicate, List.replicate, hta]
  refine wpS_of_wp ?_
  go_wp2
  cases c₀
  simp_all [bodyPostS, results, Tryz.results27]
  exact HF.out _

/-- What is behind a landing. -/
def LandP (w : World) (b : Nat) (S : List Nat) (G : Gr) (w' : World) : Prop := ∃ S', GAt w' b S' G ∧ Kept S w w' ∧ ∀ k ∈ S', k ∈ S ∨ w.heap.size ≤ k

end Go.Proofs.YtfoghemiaidnhaaGreat

/-
  Land: the whole.
-/
namespace Go.Proofs.YtfoghemiaidnhaaGreat
open Go.RowKit

theorem size_vd : (Tryz.prog.info? 28).map (·.size) = some 7 := by kernel_rfl

/-- The result's cell, laid. -/
def w0L (w : World) : World := w.alloc (.cells #[.int .i64 0, .int .i64 0, .int .i64 0, .string ⟨#[]⟩, .int .u64 0, .slice none 0 0, .int .i64 0] 28)

theorem req_none {G : Gr} {base : Int} {n : List UInt8} {L : List Ch} (h : reqV G base n L = none) : badB base n L = false ∧ ¬ (G.cs.length : Int) < base := by
  unfold reqV at h
  by_cases h1 : badB base n L = true
  · simp [h1] at h
  by_cases h2 : (G.cs.length : Int) < base
  · simp [h1, h2] at h
  exact ⟨by simpa using h1, h2⟩

theorem req_some {G : Gr} {base : Int} {n : List UInt8} {L : List Ch} {x : Vd} (h : reqV G base n L = some x) : endV G base n L = some x := by
  unfold reqV at h
  unfold endV
  by_cases h1 : badB base n L = true
  · simp [h1] at h ⊢; exact h
  by_cases h2 : (G.cs.length : Int) < base
  · simp [h1, h2] at h ⊢; exact h
  · simp [h1, h2] at h

theorem land_end {w : World} {b : Nat} {v : Value} {p : Option Addr} {t : Tr} {mb : Nat} {K : List (Com × Value)} {G : Gr} {w2 w3 : World} {vs : Array Value} (h : GA w2 b v p t mb K G) {S : List Nat} (hS : ∀ k ∈ S, k < w.heap.size) (hv : ∀ k ∈ ownS b mb v, k ∈ S ∨ (w.heap.size < k))
    (hB : w2.heap[w.heap.size]? = some (.cells vs 28 (0, 0))) (hK2 : Kept S w w2) (hK3 : Kept [w.heap.size] w2 w3) : LandP w b S G w3 := by
  have hT : Typed w2 [w.heap.size] [28] := fun k hk cur t' mk hh => by
    simp at hk; subst hk; rw [hB] at hh; cases hh; simp
  refine ⟨ownS b mb v, ⟨v, p, t, mb, K, h.keep hK3 (fun i hi hm => ?_) hT (by decide) (by decide) (by decide), rfl⟩, hK2.trans hK3 (by simp), fun k hk => ?_⟩
  · simp at hm; subst hm
    rcases hv _ hi with h1 | h1
    · have := hS _ h1; omega
    · omega
  · rcases hv k hk with h1 | h1
    · exact .inl h1
    · exact .inr (by omega)

set_option maxHeartbeats 8000000 in
theorem land_call {w : World} {b : Nat} {v : Value} {p : Option Addr} {t : Tr} {mb : Nat} {K : List (Com × Value)} {G : Gr} (h : GA w b v p t mb K G) (hW : Wf G) (hl : G.cs.length ≤ 10000)
    (base : Int) (n : List UInt8) (hn : n.length ≤ 1000000) (ao : Option Addr) (m c : Nat) (L : List Ch) (hS : SlC w ao m c L) (hnil : ao = none → c = 0) (hm : m ≤ 1000000) (hp : ∀ x ∈ L, x.p.length ≤ 1000000000) :
    Calls Tryz.prog 9 #[.pointer (some ⟨b, 0, none⟩), .int .i64 base, .string (str n), .slice ao m c] w fun e w' => e = .returned (vdV (landV G base n L)) ∧ LandP w b (ownS b mb v) (landG G base n L) w' := by
  have hK1 : Kept [] w (w0L w) := (Kept.refl _ _).alloc _
  have hG1 := h.kept hK1
  have hblk : (w0L w).heap[w.heap.size]? = some (.cells #[.int .i64 0, .int .i64 0, .int .i64 0, .string ⟨#[]⟩, .int .u64 0, .slice none 0 0, .int .i64 0] 28 (0, 0)) := heap_alloc_new w _
  have hS1 : SlC (w0L w) ao m c L := hS.kept hK1 (by simp)
  have cM := made_call hG1
  have cR := req_call hG1 base n (by omega) ao m c L hS1 hp
  have hmf : ∀ (fn : Fn) (first cap : Array Value) (w : World), (Instr.makeFunc fn first cap).run Tryz.prog w = .ok (.func fn first cap) w := fun _ _ _ _ => rfl
  have HG : Hid (GA w b v p t mb K G) := h
  have HG1 : Hid (GA (w0L w) b v p t mb K G) := hG1
  have HS1 : Hid (SlC (w0L w) ao m c L) := hS1
  have HB : Hid ((w0L w).heap[w.heap.size]? = some (.cells #[.int .i64 0, .int .i64 0, .int .i64 0, .string ⟨#[]⟩, .int .u64 0, .slice none 0 0, .int .i64 0] 28 (0, 0))) := hblk
  have HL : Hid (∀ k ∈ ownS b mb v, k < w.heap.size) := h.lt
  clear h hG1 hS1 hblk hS
  cases hR : reqV G base n L with
  | some x =>
    obtain ⟨hv, hg⟩ := landV_some (req_some hR)
    have HV : Hid (landV G base n L = x) := hv
    have HGe : Hid (landG G base n L = G) := hg
    rw [hR] at cR
    simp only [reqE, pan] at cR
    clear hv hg hR
    unfold w0L at *
    go_enter_defers Tryz.func9, Tryz.ntmps9
    go_wp2_with fail
    refine cM.mono ?_
    rintro _ _ ⟨rfl, rfl⟩
    go_wp2_with fail
    refine cR.mono ?_
    rintro _ w2 ⟨rfl, hK2⟩
    go_wp2_with fail
    refine leaves_cons (f := 27) (args := #[.pointer (some ⟨w.heap.size, 0, none⟩)]) (by simp) (by simp [go_sem]) ?_
    refine (land_catch _ _ x [] _ _ _ _ _ _ _ (hK2.at HB.out (by simp))).mono ?_
    rintro _ u' w3 ⟨rfl, rfl, hq, hK3⟩
    refine ⟨_, results_cell_row (by rfl) _ _ w.heap.size _ _ _ _ (by rfl) hq Tryz.underlying28 rfl size_vd, ?_⟩
    rw [HV.out, HGe.out]
    exact ⟨rfl, land_end (HG1.out.kept hK2) HL.out (fun k hk => .inl hk) (hK2.at HB.out (by simp)) ((Kept.mono (hK1.trans hK2 (by simp)) (by simp))) hK3⟩
  | none =>
    obtain ⟨hbad, hle⟩ := req_none hR
    obtain ⟨hchk, hnm, hb0⟩ := badB_false hbad
    have hsc := sortC_check.2 hchk
    have hsp := check_short hsc
    have hs16 : (sortC L).length ≤ 16 := hsc.2.1
    rw [hR] at cR
    simp only [reqE] at cR
    have cS := fun W (hk : Kept [] (w0L w) W) => sorted_call W ao m c L (HS1.out.kept hk (by simp)) hnil (by omega) (fun x hx => by have := hp x hx; omega)
    cases hC : confl G.ls base (sortC L) with
    | some y =>
      have he : endV G base n L = some ⟨3, y.2, y.1, 0⟩ := by rw [endV_conf hbad hle, hC]; rfl
      obtain ⟨hv, hg⟩ := landV_some he
      have HV : Hid (landV G base n L = ⟨3, y.2, y.1, 0⟩) := hv
      have HGe : Hid (landG G base n L = G) := hg
      have HC : Hid (confl G.ls base (sortC L) = some y) := hC
      have HP : Hid (∀ x ∈ sortC L, x.p.length ≤ 1000000000) := fun x hx => by have := hsp x hx; omega
      clear hv hg hR he hC hchk hsc hsp
      unfold w0L at *
      go_enter_defers Tryz.func9, Tryz.ntmps9
      go_wp2_with fail
      refine cM.mono ?_
      rintro _ _ ⟨rfl, rfl⟩
      go_wp2_with fail
      refine cR.mono ?_
      rintro _ w2 ⟨rfl, hK2⟩
      go_wp2_with fail
      refine (cS _ hK2).mono ?_
      rintro _ w3 ⟨v3, rfl, hO3, hK3⟩
      replace hK3 := hK2.trans hK3 (by simp)
      obtain ⟨a3, m3, c3, rfl, hs3, _⟩ := hO3.chV
      have cU := unc_call (HG1.out.kept hK3) base hb0 a3 m3 c3 (sortC L) hs3 HP.out
      rw [HC.out] at cU
      simp only [uncE, pan] at cU
      clear hs3 hO3
      go_wp2_with fail
      refine cU.mono ?_
      rintro _ w4 ⟨rfl, hK4⟩
      replace hK4 := hK3.trans hK4 (by simp)
      go_wp2_with fail
      refine leaves_cons (f := 27) (args := #[.pointer (some ⟨w.heap.size, 0, none⟩)]) (by simp) (by simp [go_sem]) ?_
      refine (land_catch _ _ ⟨3, y.2, y.1, 0⟩ [] _ _ _ _ _ _ _ (hK4.at HB.out (by simp))).mono ?_
      rintro _ u' w5 ⟨rfl, rfl, hq, hK5⟩
      refine ⟨_, results_cell_row (by rfl) _ _ w.heap.size _ _ _ _ (by rfl) hq Tryz.underlying28 rfl size_vd, ?_⟩
      rw [HV.out, HGe.out]
      exact ⟨rfl, land_end (HG1.out.kept hK4) HL.out (fun k hk => .inl hk) (hK4.at HB.out (by simp)) ((Kept.mono (hK1.trans hK4 (by simp)) (by simp))) hK5⟩
    | none =>
      have he : endV G base n L = none := by rw [endV_conf hbad hle, hC]; rfl
      obtain ⟨hv, hg⟩ := landV_none he
      have HV : Hid (landV G base n L = ⟨2, (G.cs.length : Int) + 1, [], 0⟩) := hv
      have HGe : Hid (landG G base n L = addG G (newC G base n L)) := hg
      have HC : Hid (confl G.ls base (sortC L) = none) := hC
      have HP : Hid (∀ x ∈ sortC L, x.p.length ≤ 1000000000) := fun x hx => by have := hsp x hx; omega
      have hkl : K.length ≤ 1000000 := by have h1 := congrArg List.length HG.out.com; simp at h1; omega
      have hll : G.ls.length ≤ 1000000000 := by have := hW.many; omega
      have hrl : G.rs.length ≤ 1000000 := by have := hW.refs; omega
      have hSr := hW.srs
      have cT := fun W => tree_clone n W (by omega)
      clear hv hg hR he hC hchk hsc hsp
      unfold w0L at *
      go_enter_defers Tryz.func9, Tryz.ntmps9
      go_wp2_with fail
      refine cM.mono ?_
      rintro _ _ ⟨rfl, rfl⟩
      go_wp2_with fail
      refine cR.mono ?_
      rintro _ w2 ⟨rfl, hK2⟩
      go_wp2_with fail
      refine (cS _ hK2).mono ?_
      rintro _ w3 ⟨v3, rfl, hO3, hK3⟩
      replace hK3 := hK2.trans hK3 (by simp)
      obtain ⟨a3, m3, c3, rfl, hs3, _⟩ := hO3.chV
      have cU := unc_call (HG1.out.kept hK3) base hb0 a3 m3 c3 (sortC L) hs3 HP.out
      rw [HC.out] at cU
      simp only [uncE] at cU
      have HO3 : Hid (OwnC 0 w3 (.slice a3 m3 c3) (sortC L)) := hO3.mono (Nat.zero_le _)
      clear hs3 hO3
      go_wp2_with fail
      refine cU.mono ?_
      rintro _ w4 ⟨rfl, hK4⟩
      replace HO3 : Hid (OwnC 0 w4 (.slice a3 m3 c3) (sortC L)) := HO3.out.kept hK4
      replace hK4 := hK3.trans hK4 (by simp)
      have cH := head_call (HG1.out.kept hK4)
      go_wp2_with fail
      refine cH.mono ?_
      rintro _ _ ⟨rfl, rfl⟩
      go_wp2_with fail
      refine (cT _).mono ?_
      rintro _ w5 ⟨rfl, hK5⟩
      replace HO3 : Hid (OwnC 0 w5 (.slice a3 m3 c3) (sortC L)) := HO3.out.kept hK5
      replace hK5 := hK4.trans hK5 (by simp)
      have hKa := (Kept.refl [] w5).alloc (.cells #[.int .i64 ((G.cs.length : Int) + 1), .int .i64 base, .string (str n), .slice a3 m3 c3] 54)
      have hbox := heap_alloc_new w5 (.cells #[.int .i64 ((G.cs.length : Int) + 1), .int .i64 base, .string (str n), .slice a3 m3 c3] 54)
      have cA := add_call ((HG1.out.kept hK5).kept hKa) (newC G base n L) (.slice a3 m3 c3) (HO3.out.kept hKa) hkl HP.out (by show (sortC L).length ≤ _; omega) hll (by show 0 ≤ (G.cs.length : Int) + 1 ∧ (G.cs.length : Int) + 1 ≤ 1000000000; omega) hn hSr hrl
      simp only [newC] at cA
      clear cM cR cS cU cH cT
      go_wp2_with fail
      refine cA.mono ?_
      rintro _ w6 ⟨rfl, v6, p6, t6, hG6, hK6, hv6⟩
      have hsz5 : w.heap.size + 1 ≤ w5.heap.size := by have := hK5.size; simp at this; omega
      have hK7 := hK5.trans hKa (by simp)
      have hB6 := hK6.at (hK7.at HB.out (by simp)) (fun hm => by have := HL.out _ hm; omega)
      have hX6 := hK6.at hbox (fun hm => by have := HL.out _ hm; omega)
      obtain ⟨x0, x1, x2, x3⟩ := cells4 hX6
      obtain ⟨r0, r1, r2, r3, r4, r5, r6⟩ := cells7 hB6
      have f0 := frozen_in hB6 0
      have f1 := frozen_in hB6 1
      have f2 := frozen_in hB6 2
      have f3 := frozen_in hB6 3
      have f4 := frozen_in hB6 4
      have f5 := frozen_in hB6 5
      have f6 := frozen_in hB6 6
      have HG6 : Hid (GA w6 b v6 p6 t6 mb (K ++ [(newC G base n L, .slice a3 m3 c3)]) (addG G (newC G base n L))) := hG6
      have HK6 : Hid (Kept (ownS b mb v) w w6) := (Kept.mono (hK1.trans hK7 (by simp)) (by simp)).trans hK6 (fun i hi => .inl hi)
      have HB6 : Hid (w6.heap[w.heap.size]? = some (.cells #[.int .i64 0, .int .i64 0, .int .i64 0, .string ⟨#[]⟩, .int .u64 0, .slice none 0 0, .int .i64 0] 28 (0, 0))) := hB6
      have HV6 : Hid (∀ k ∈ ownS b mb v6, k ∈ ownS b mb v ∨ w.heap.size < k) := fun k hk => by
        rcases List.mem_cons.1 hk with rfl | hk
        · exact .inl (by simp [ownS])
        rcases List.mem_cons.1 hk with rfl | hk
        · exact .inl (by simp [ownS])
        · rcases hv6 k (mem_own.1 hk) with h1 | h1
          · exact .inl (by simp [ownS, h1])
          · exact .inr (by simp at h1; omega)
      clear hG6 hK6 hB6 hX6 hv6 hbox hKa hK7 HO3 cA hK5 hK4 hK3 hK2
      go_wp2_with fail
      refine leaves_cons (f := 27) (args := #[.pointer (some ⟨w.heap.size, 0, none⟩)]) (by simp) (by simp [go_sem]) ?_
      refine (land_idle _ _).mono ?_
      rintro _ u' w8 ⟨rfl, rfl, hK8⟩
      have hs7 := hK8.at (set7 HB6.out (.int .i64 2) (.int .i64 0) (.int .i64 ((G.cs.length : Int) + 1)) (.string ⟨#[]⟩) (.int .u64 0) (.slice none 0 0) (.int .i64 0)) (by simp)
      refine ⟨_, results_cell_row (by rfl) _ _ w.heap.size _ _ _ _ (by rfl) hs7 Tryz.underlying28 rfl size_vd, ?_⟩
      rw [HV.out, HGe.out]
      refine ⟨rfl, land_end HG6.out HL.out HV6.out HB6.out HK6.out ?_⟩
      exact (set7_kept (Kept.refl [w.heap.size] w6) (by simp) _ _ _ _ _ _ _).trans hK8 (by simp)

end Go.Proofs.YtfoghemiaidnhaaGreat
