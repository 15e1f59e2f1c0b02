/-
  Log.
-/
import Derived.Test.YtfoghemiaidnhaaGreatGrRead
import Derived.Test.YtfoghemiaidnhaaGreatGrCopy
import Derived.Test.YtfoghemiaidnhaaGreatGrAwake
namespace Go.Proofs.YtfoghemiaidnhaaGreat
open Go.RowKit

theorem log_end {w w1 : World} {v1 : Value} {K1 : List (Com × Value)} {cs : Array Value} (hB : w1.heap[w.heap.size]? = some (.cells cs 28 (0, 0))) (hK : Kept [] w w1) (hR : RowK (w.heap.size + 1) w1 v1 K1) (hO : OwnK (w.heap.size + 1) w1 K1) {u0 u1 u2 u3 u4 u5 u6 : Value} :
    Hid (RowK w.heap.size (set7w w1 w.heap.size u0 u1 u2 u3 u4 u5 u6) v1 K1 ∧ OwnK w.heap.size (set7w w1 w.heap.size u0 u1 u2 u3 u4 u5 u6) K1 ∧ Kept [] w (set7w w1 w.heap.size u0 u1 u2 u3 u4 u5 u6)) := by
  have hk : Kept [w.heap.size] w1 (set7w w1 w.heap.size u0 u1 u2 u3 u4 u5 u6) := set7_kept (Kept.refl _ _) (.inl (by simp)) _ _ _ _ _ _ _
  have hT : Typed w1 [w.heap.size] [28] := fun k hk cur t mk hh => by rw [List.mem_singleton] at hk; subst hk; rw [hB] at hh; cases hh; simp
  refine ⟨?_, fun x hx => ?_, hK.trans hk (fun i hi => by rw [List.mem_singleton] at hi; subst hi; exact .inr (Nat.le_refl _))⟩
  · obtain ⟨h1, h2⟩ := row_typed hk hT hR (by decide)
    exact ⟨h1, h2.imp id fun ⟨g, cap, cur, hv, hg, r⟩ => ⟨g, cap, cur, hv, by omega, r⟩⟩
  · obtain ⟨h1, h2⟩ := row_typed hk hT (hO x hx) (by decide)
    exact ⟨h1, h2.imp id fun ⟨g, cap, cur, hv, hg, r⟩ => ⟨g, cap, cur, hv, by omega, r⟩⟩

/-- What Log tells. -/
def logL (cs : List Com) (f m : Int) : List Com := (cs.drop (f - 1).toNat).take (min m 32).toNat

/-- A verdict with commits. -/
def logV (v : Value) : Value := .agg #[.int .i64 11, .int .i64 0, .int .i64 0, .string ⟨#[]⟩, .int .u64 0, v, .int .i64 0]

theorem SlK.cut {w : World} {b o n c : Nat} {K : List (Com × Value)} (h : SlK w (Option.some ⟨b, o, none⟩) n c K) {k m : Nat} (hk : k + m ≤ n) : SlK w (Option.some ⟨b, o + k * 4, none⟩) m (c - k) ((K.drop k).take m) := by
  obtain ⟨h1, h2, h3, h4, h5⟩ := h
  refine ⟨by simp; omega, by omega, by omega, fun i hi => ⟨b, o + k * 4, rfl, ?_⟩, fun x hx => h5 x (List.mem_of_mem_drop (List.mem_of_mem_take hx))⟩
  simp at hi
  obtain ⟨b', o', e, hx⟩ := h4 (k + i) (by omega)
  cases e
  rw [show o + k * 4 + i * 4 = o + (k + i) * 4 from by omega]
  simpa using hx

set_option maxHeartbeats 8000000 in
theorem log_bad {w : World} {b : Nat} {v : Value} {p : Option Addr} {t : Tr} {mb : Nat} {K : List (Com × Value)} {G : Gr} (h : GA w b v p t mb K G) (f m : Int) (hb : f < 1 ∨ m < 1) :
    Calls Tryz.prog 17 #[.pointer (some ⟨b, 0, none⟩), .int .i64 f, .int .i64 m] w fun e w' => e = .returned (vdV ⟨5, 0, [], 0⟩) ∧ Kept [] w w' := by
  have hK1 : Kept [] w (w0L w) := (Kept.refl _ _).alloc _
  have hG1 := h.kept hK1
  have HB : Hid ((w0L w).heap[w.heap.size]? = some (.cells zeroVd 28 (0, 0))) := heap_alloc_new w _
  have cM := made_call hG1
  clear hG1 h
  unfold w0L at *
  by_cases hf : f < 1
  · go_enter Tryz.func17, Tryz.ntmps17
    go_wp2_with fail
    refine cM.mono ?_
    rintro _ _ ⟨rfl, rfl⟩
    go_wp2_with fail
    refine bodyPost_ret (vd_result (by rfl) _ (by rfl) (heap_alloc_new w _) rfl) rfl ?_
    exact ⟨rfl, (Kept.refl _ _).alloc _⟩
  · have hm : m < 1 := by omega
    go_enter Tryz.func17, Tryz.ntmps17
    go_wp2_with fail
    refine cM.mono ?_
    rintro _ _ ⟨rfl, rfl⟩
    go_wp2_with fail
    refine bodyPost_ret (vd_result (by rfl) _ (by rfl) (heap_alloc_new w _) rfl) rfl ?_
    exact ⟨rfl, (Kept.refl _ _).alloc _⟩

theorem min3 {P : Program} (ts : Array TypeId) (t : TypeId) (W : World) (x y z : Int) : (Builtin.min_ ts t #[.int .i64 x, .int .i64 y, .int .i64 z]).run P W = .ok (.int .i64 (min (min x y) z)) W := by
  have e : ∀ a b : Int, (if b < a then b else a) = min a b := fun a b => by omega
  simp [Builtin.min_, Builtin.min2, e]

set_option maxHeartbeats 8000000 in
theorem log_ok {w : World} {b : Nat} {v : Value} {p : Option Addr} {t : Tr} {mb : Nat} {K : List (Com × Value)} {G : Gr} (h : GA w b v p t mb K G) (hW : Wf G) (hl : G.cs.length ≤ 10000) (f m : Int) (hf : 1 ≤ f) (hm : 1 ≤ m) (hf2 : f < 2 ^ 63) (hm2 : m < 2 ^ 63) :
    Calls Tryz.prog 17 #[.pointer (some ⟨b, 0, none⟩), .int .i64 f, .int .i64 m] w fun e w' => ∃ v' K', e = .returned (logV v') ∧ K'.map Prod.fst = logL G.cs f m ∧ RowK w.heap.size w' v' K' ∧ OwnK w.heap.size w' K' ∧ Kept [] w w' := by
  have hK1 : Kept [] w (w0L w) := (Kept.refl _ _).alloc _
  have hG1 := h.kept hK1
  have HB : Hid ((w0L w).heap[w.heap.size]? = some (.cells zeroVd 28 (0, 0))) := heap_alloc_new w _
  have cM := made_call hG1
  have cH := head_call hG1
  have hkl : K.length = G.cs.length := by rw [← h.com]; simp
  obtain ⟨ao, c, hv, hs, hnil⟩ := h.row.sl h.own
  unfold w0L at *
  have hfa : ¬ f < 1 := by omega
  have hma : ¬ m < 1 := by omega
  have q1 : IntKind.i64.wrap (f - 1) = f - 1 := IntWalk.i64_in _ (by omega)
  have HKl : Hid (K.length = G.cs.length) := hkl
  have HG1 := hG1
  obtain ⟨gl, hgl⟩ : ∃ gl : Nat, gl = G.cs.length := ⟨_, rfl⟩
  rw [hkl, ← hgl] at hs hv
  rw [← hgl] at cH hl
  obtain ⟨fi, hfi⟩ : ∃ fi : Nat, min (f - 1) (gl : Int) = (fi : Int) := ⟨(min (f - 1) (gl : Int)).toNat, by omega⟩
  obtain ⟨k, hk⟩ : ∃ k : Nat, min (min m 32) ((gl : Int) - fi) = (k : Int) := ⟨(min (min m 32) ((gl : Int) - fi)).toNat, by omega⟩
  have hk2 : min m (min 32 ((gl : Int) - fi)) = (k : Int) := by omega
  have hfk : fi + k ≤ gl := by omega
  have HL : Hid (logL G.cs f m = (G.cs.drop fi).take k) := by
    show _ = _
    unfold logL
    by_cases hc : f - 1 ≤ gl
    · have h1 : (f - 1).toNat = fi := by omega
      rw [h1]
      by_cases hd : (min m 32).toNat ≤ gl - fi
      · rw [show (min m 32).toNat = k from by omega]
      · rw [List.take_of_length_le (by simp; omega), List.take_of_length_le (by simp; omega)]
    · rw [List.drop_eq_nil_of_le (by omega), List.drop_eq_nil_of_le (by omega)]; simp
  have q2 : IntKind.i64.wrap ((gl : Int) - fi) = (gl : Int) - fi := IntWalk.i64_in _ (by omega)
  have q3 : IntKind.i64.wrap ((fi : Int) + k) = (fi : Int) + k := IntWalk.i64_in _ (by omega)
  have hsK := hs.kept hK1
  have hsm : ∀ x ∈ K, x.1.c.length ≤ 1000000 := fun x hx => by
    have h1 := hW.com x.1 (by rw [← h.com]; exact List.mem_map_of_mem hx)
    have := h1.1.2.1; omega
  have hcom := h.com
  have hao : ao = none ∨ ∃ g, ao = some ⟨g, 0, none⟩ := by
    obtain ⟨_, h2⟩ := h.row
    rw [hv] at h2
    rcases h2 with ⟨h2, _⟩ | ⟨g, cap, cur, h2, _⟩
    · cases h2; exact .inl rfl
    · cases h2; exact .inr ⟨g, rfl⟩
  subst hv
  obtain ⟨e0, e1, e2⟩ := cells3 HG1.at_
  have hcap := hs.2.1
  have hcm := hs.2.2.1
  unfold maxLen at hcm
  have hmin3 : ∀ (ts : Array TypeId) (t : TypeId) (W : World), (Builtin.min_ ts t #[.int .i64 m, .int .i64 32, .int .i64 ((gl : Int) - fi)]).run Tryz.prog W = .ok (.int .i64 (k : Int)) W := fun ts t W => by rw [min3, hk]
  have b1 : (fi : Int) ≤ (fi : Int) + k := by omega
  have b2 : (fi : Int) + k ≤ (c : Int) := by omega
  have b3 : (fi : Int) + k ≤ (gl : Int) := by omega
  have b4 : (0 : Int) ≤ (fi : Int) + k := by omega
  have HFin : Hid (∀ ao2 c2, (ao2 = none → c2 = 0) → SlK (w.alloc (.cells #[.int .i64 0, .int .i64 0, .int .i64 0, .string ⟨#[]⟩, .int .u64 0, .slice none 0 0, .int .i64 0] 28)) ao2 k c2 ((K.drop fi).take k) → Calls Tryz.prog 48 #[.slice ao2 k c2] (w.alloc (.cells #[.int .i64 0, .int .i64 0, .int .i64 0, .string ⟨#[]⟩, .int .u64 0, .slice none 0 0, .int .i64 0] 28)) fun e w' => CopP (w.alloc (.cells #[.int .i64 0, .int .i64 0, .int .i64 0, .string ⟨#[]⟩, .int .u64 0, .slice none 0 0, .int .i64 0] 28)) ((G.cs.drop fi).take k) e w') := fun ao2 c2 hz hs2 => by
    have := copies_call _ ao2 k c2 _ hs2 hz (by omega) (fun x hx => hsm x (List.mem_of_mem_drop (List.mem_of_mem_take hx)))
    rw [List.map_take, List.map_drop, hcom] at this
    exact this
  have HSK : Hid (SlK (w.alloc (.cells #[.int .i64 0, .int .i64 0, .int .i64 0, .string ⟨#[]⟩, .int .u64 0, .slice none 0 0, .int .i64 0] 28)) ao gl c K) := hsK
  clear hkl hgl hs hsK hG1 HG1 h hcom hsm hf hm hf2 hm2 hk hk2
  by_cases hcf : c = fi
  · have hk0 : k = 0 := by omega
    subst hk0
    have cK := HFin.out ao 0 (fun _ => rfl) ⟨by simp, Nat.le_refl _, Nat.zero_le _, fun i hi => by simp at hi, fun x hx => by simp at hx⟩
    go_enter Tryz.func17, Tryz.ntmps17
    go_wp2_with fail
    refine cM.mono ?_
    rintro _ _ ⟨rfl, rfl⟩
    go_wp2_with fail
    refine cH.mono ?_
    rintro _ _ ⟨rfl, rfl⟩
    go_wp2_with fail
    refine cH.mono ?_
    rintro _ _ ⟨rfl, rfl⟩
    go_wp2_with fail
    refine cK.mono ?_
    rintro _ w1 ⟨v1, K1, rfl, h1, h2, h3, h4⟩
    obtain ⟨ao1, n1, c1, rfl⟩ : ∃ ao1 n1 c1, v1 = .slice ao1 n1 c1 := by obtain ⟨a, c', h, _⟩ := h2.sl h3; exact ⟨_, _, _, h⟩
    have HR1 : Hid (RowK (w.heap.size + 1) w1 (.slice ao1 n1 c1) K1) := by have := h2; rw [World.size_alloc] at this; exact this
    have HO1 : Hid (OwnK (w.heap.size + 1) w1 K1) := by have := h3; rw [World.size_alloc] at this; exact this
    have hB1 := h4.at HB.out (by simp)
    have HE := log_end hB1 (hK1.trans h4 (by simp)) HR1.out HO1.out (u0 := .int .i64 11) (u1 := .int .i64 0) (u2 := .int .i64 0) (u3 := .string ⟨#[]⟩) (u4 := .int .u64 0) (u5 := .slice ao1 n1 c1) (u6 := .int .i64 0)
    obtain ⟨r0, r1, r2, r3, r4, r5, r6⟩ := cells7 hB1
    have f0 := frozen_in hB1 0
    have f1 := frozen_in hB1 1
    have f2 := frozen_in hB1 2
    have f3 := frozen_in hB1 3
    have f4 := frozen_in hB1 4
    have f5 := frozen_in hB1 5
    have f6 := frozen_in hB1 6
    have HB1 : Hid (w1.heap[w.heap.size]? = some (.cells zeroVd 28 (0, 0))) := hB1
    have H1 : Hid (K1.map Prod.fst = logL G.cs f m) := by rw [HL.out]; exact h1
    clear hB1 h1 h2 h3 h4 e0 e1 e2
    go_wp2_with fail
    refine bodyPost_ret (vd_result (by rfl) _ (by rfl) (set7 HB1.out _ _ _ _ _ _ _) rfl) rfl ?_
    exact ⟨_, K1, rfl, H1.out, HE.out⟩
  · rcases hao with rfl | ⟨g, rfl⟩
    · have := hnil rfl; omega
    have cK := HFin.out _ _ (by simp) (HSK.out.cut hfk)
    rw [Nat.zero_add] at cK
    clear hnil
    go_enter Tryz.func17, Tryz.ntmps17
    go_wp2_with fail
    refine cM.mono ?_
    rintro _ _ ⟨rfl, rfl⟩
    go_wp2_with fail
    refine cH.mono ?_
    rintro _ _ ⟨rfl, rfl⟩
    go_wp2_with fail
    refine cH.mono ?_
    rintro _ _ ⟨rfl, rfl⟩
    go_wp2_with fail
    refine cK.mono ?_
    rintro _ w1 ⟨v1, K1, rfl, h1, h2, h3, h4⟩
    obtain ⟨ao1, n1, c1, rfl⟩ : ∃ ao1 n1 c1, v1 = .slice ao1 n1 c1 := by obtain ⟨a, c', h, _⟩ := h2.sl h3; exact ⟨_, _, _, h⟩
    have HR1 : Hid (RowK (w.heap.size + 1) w1 (.slice ao1 n1 c1) K1) := by have := h2; rw [World.size_alloc] at this; exact this
    have HO1 : Hid (OwnK (w.heap.size + 1) w1 K1) := by have := h3; rw [World.size_alloc] at this; exact this
    have hB1 := h4.at HB.out (by simp)
    have HE := log_end hB1 (hK1.trans h4 (by simp)) HR1.out HO1.out (u0 := .int .i64 11) (u1 := .int .i64 0) (u2 := .int .i64 0) (u3 := .string ⟨#[]⟩) (u4 := .int .u64 0) (u5 := .slice ao1 n1 c1) (u6 := .int .i64 0)
    obtain ⟨r0, r1, r2, r3, r4, r5, r6⟩ := cells7 hB1
    have f0 := frozen_in hB1 0
    have f1 := frozen_in hB1 1
    have f2 := frozen_in hB1 2
    have f3 := frozen_in hB1 3
    have f4 := frozen_in hB1 4
    have f5 := frozen_in hB1 5
    have f6 := frozen_in hB1 6
    have HB1 : Hid (w1.heap[w.heap.size]? = some (.cells zeroVd 28 (0, 0))) := hB1
    have H1 : Hid (K1.map Prod.fst = logL G.cs f m) := by rw [HL.out]; exact h1
    clear hB1 h1 h2 h3 h4 e0 e1 e2
    go_wp2_with fail
    refine bodyPost_ret (vd_result (by rfl) _ (by rfl) (set7 HB1.out _ _ _ _ _ _ _) rfl) rfl ?_
    exact ⟨_, K1, rfl, H1.out, HE.out⟩

end Go.Proofs.YtfoghemiaidnhaaGreat
