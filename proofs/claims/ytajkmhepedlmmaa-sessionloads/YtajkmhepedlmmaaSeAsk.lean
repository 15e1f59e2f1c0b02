/-
  New, All, Clone, Find, Ask.
-/
import Derived.Test.YtajkmhepedlmmaaSeOpen
namespace Go.Proofs.Ytajkmhepedlmmaa
open Go.RowKit

theorem TbA.keepT {w w' : World} {b sz : Nat} {v : Value} {X : List (Se × Value)} {L : List Se} (h : TbA w b sz v X L) {S : List Nat} {Ts : List TypeId} (k : Kept S w w') (hT : Typed w S Ts) (h0 : 68 ∉ Ts) (h1 : 44 ∉ Ts) (h2 : 65 ∉ Ts) (h3 : 89 ∉ Ts) : TbA w' b sz v X L :=
  ⟨k.typed hT h.at_ h0, h.pos, h.row.typed k hT h1, fun x hx => (h.own x hx).keep k hT h2 h3, h.ses⟩

/-- New. -/
def NewP (w : World) (size : Int) (e : Ending) (w' : World) : Prop :=
  (1 ≤ size ∧ size ≤ 16 ∧ e = .returned (.tuple #[.pointer (some ⟨w.heap.size, 0, none⟩), .int .i64 0]) ∧ w' = w.alloc (.cells #[.int .i64 size, .slice none 0 0] 68)) ∨
  (¬ (1 ≤ size ∧ size ≤ 16) ∧ e = .returned (.tuple #[.pointer none, .int .i64 1]) ∧ w' = w)

set_option maxHeartbeats 1000000 in
theorem newT_call (w : World) (size : Int) :
    Calls Try.prog 10 #[.int .i64 size] w fun e w' => NewP w size e w' := by
  by_cases h1 : size < 1
  · go_enter Try.func10, Try.ntmps10
    go_wp2
    go_ret2
    exact .inr ⟨by omega, rfl, rfl⟩
  · by_cases h2 : 16 < size
    · go_enter Try.func10, Try.ntmps10
      go_wp2
      go_ret2
      exact .inr ⟨by omega, rfl, rfl⟩
    · go_enter Try.func10, Try.ntmps10
      go_wp2
      go_ret2
      exact .inl ⟨by omega, by omega, rfl, rfl⟩

theorem TbA.new (w : World) (sz : Nat) (h : 1 ≤ sz) : TbA (w.alloc (.cells #[.int .i64 sz, .slice none 0 0] 68)) w.heap.size sz (.slice none 0 0) [] [] :=
  ⟨heap_alloc_new w _, h, .inl ⟨rfl, rfl⟩, (fun _ hx => by cases hx), rfl⟩

set_option maxHeartbeats 2000000 in
theorem all_call {w : World} {b sz : Nat} {v : Value} {X : List (Se × Value)} {L : List Se} (h : TbA w b sz v X L) (hl : L.length ≤ 100000) (hok : ∀ x ∈ L, okS x) :
    Calls Try.prog 24 #[.pointer (some ⟨b, 0, none⟩)] w fun e w' => CopS w L e w' := by
  obtain ⟨c0, c1⟩ := h.cells
  obtain ⟨ao, c, hv, hS⟩ := h.sl
  subst hv
  have cM := made_callT h
  have cC := copySessions_call w ao X.length c X L hS h.ses (by rw [h.len]; exact hl) hok
  clear hS h
  go_enter Try.func24, Try.ntmps24
  go_wp2_with fail
  refine cM.mono ?_
  rintro _ W ⟨rfl, hW0⟩
  obtain rfl := hW0.symm
  go_wp2_with fail
  refine cC.mono ?_
  rintro _ w2 ⟨v2, X2, rfl, h1, h2, h3, h4⟩
  go_wp2_with fail
  go_ret
  exact ⟨_, X2, rfl, h1, h2, h3, h4⟩

/-- Clone. -/
def CloP (w : World) (sz : Nat) (v : Value) (X : List (Se × Value)) (L : List Se) (e : Ending) (w' : World) : Prop :=
  ∃ b', e = .returned (.pointer (some ⟨b', 0, none⟩)) ∧ TbA w' b' sz v X L ∧ Kept [] w w' ∧ w.heap.size ≤ b'

set_option maxHeartbeats 2000000 in
theorem cloneT_call {w : World} {b sz : Nat} {v : Value} {X : List (Se × Value)} {L : List Se} (h : TbA w b sz v X L) :
    Calls Try.prog 28 #[.pointer (some ⟨b, 0, none⟩)] w fun e w' => CloP w sz v X L e w' := by
  obtain ⟨c0, c1⟩ := h.cells
  obtain ⟨ao, n, c, hv⟩ := h.row.one
  subst hv
  have cM := made_callT h
  have HT := hide h
  clear h
  go_enter Try.func28, Try.ntmps28
  go_wp2_with fail
  refine cM.mono ?_
  rintro _ W ⟨rfl, hW0⟩
  obtain rfl := hW0.symm
  go_wp2_with fail
  go_region
  all_goals go_wp2_with fail
  all_goals go_ret
  all_goals
    have hK := ((Kept.refl [] w).drew.alloc (.cells #[.int .i64 sz, .slice ao n c] 68))
    have h1 := HT.out.kept hK
    exact ⟨w.heap.size, rfl, ⟨heap_alloc_new w.drew _, h1.pos, h1.row, h1.own, h1.ses⟩, hK, Nat.le_refl _⟩

/-- What Find tells. -/
def findS (id : Int) (L : List Se) : Se := match byI id L with
  | some i => L.getD i se0
  | none => se0

def FindP (w : World) (id : Int) (L : List Se) (e : Ending) (w' : World) : Prop :=
  ∃ u, e = .returned (.tuple #[seV (findS id L) u, .bool (byI id L).isSome]) ∧ KoO w.heap.size w' u (findS id L).v.k ∧ Kept [] w w'

set_option maxHeartbeats 4000000 in
set_option maxRecDepth 100000 in
theorem find_call {w : World} {b sz : Nat} {v : Value} {X : List (Se × Value)} {L : List Se} (h : TbA w b sz v X L) (hl : L.length ≤ 100000) (hok : ∀ x ∈ L, okS x) (id : Int) :
    Calls Try.prog 20 #[.pointer (some ⟨b, 0, none⟩), .int .i64 id] w fun e w' => FindP w id L e w' := by
  have hKz : Kept [] w (w.alloc (.cells #[.int .i64 0, .int .i64 0, .string ⟨#[]⟩, .int .i64 0, .int .i64 0, .int .i64 0, .string ⟨#[]⟩, .int .u64 0, .slice none 0 0, .int .i64 0] 44)) := (Kept.refl [] w).alloc _
  have HKz := hide hKz
  have HZ := hide (heap_alloc_new w (.cells #[.int .i64 0, .int .i64 0, .string ⟨#[]⟩, .int .i64 0, .int .i64 0, .int .i64 0, .string ⟨#[]⟩, .int .u64 0, .slice none 0 0, .int .i64 0] 44))
  have hT1 := h.kept hKz
  have cI := byI_call hT1 hl id
  obtain ⟨vao, vc, hve, hvc, hvm, _, hat⟩ := h.row.shape
  subst hve
  unfold maxLen at hvm
  have HT := hide h
  have HOk := hide hok
  cases hI : byI id L with
  | none =>
    have HF : Hid (findS id L = se0) := by show _ = _; unfold findS; rw [hI]
    rw [hI] at cI
    simp only [plV] at cI
    clear hT1 h hat
    go_enter Try.func20, Try.ntmps20
    go_wp2_with fail
    refine cI.mono ?_
    rintro _ w2 ⟨rfl, hK2⟩
    have hZ2 := hK2.at HZ.out (by simp)
    have r0 := cell_inC (k := 0) hZ2 rfl
    have r1 := cell_inC (k := 1) hZ2 rfl
    have r2 := cell_inC (k := 2) hZ2 rfl
    have r3 := cell_inC (k := 3) hZ2 rfl
    have r4 := cell_inC (k := 4) hZ2 rfl
    have r5 := cell_inC (k := 5) hZ2 rfl
    have r6 := cell_inC (k := 6) hZ2 rfl
    have r7 := cell_inC (k := 7) hZ2 rfl
    have r8 := cell_inC (k := 8) hZ2 rfl
    have r9 := cell_inC (k := 9) hZ2 rfl
    have fr0 := froz3 hZ2 0
    have fr1 := froz3 hZ2 1
    have fr2 := froz3 hZ2 2
    have fr3 := froz3 hZ2 3
    have fr4 := froz3 hZ2 4
    have fr5 := froz3 hZ2 5
    have fr6 := froz3 hZ2 6
    have fr7 := froz3 hZ2 7
    have fr8 := froz3 hZ2 8
    have fr9 := froz3 hZ2 9
    have HZ2 := hide hZ2
    have HK2 := hide (HKz.out.trans hK2 (by simp))
    clear hZ2 hK2 cI hKz
    go_wp2_with fail
    refine bodyPost_ret (se_res2 (by rfl) _ (by rfl) (setA10_at HZ2.out rfl _ _ _ _ _ _ _ _ _ _) rfl) rfl ?_
    exact ⟨.slice none 0 0, by unfold seV; rw [HF.out, hI]; rfl, by rw [HF.out]; exact KoO.nil _ _, HK2.out.trans (setA10_kept (Kept.refl [w.heap.size] w2) (by simp) _ _ _ _ _ _ _ _ _ _) (fun k hk => .inr (by simp at hk; omega))⟩
  | some i =>
    obtain ⟨hi, _⟩ := byI_lt hI
    have hiX : i < X.length := by rw [h.len]; exact hi
    obtain ⟨g, he, hx⟩ := hat i hiX
    subst he
    have hCk := fst_get h.ses hiX hi
    have hkoi := (h.own _ (List.getElem_mem hiX)).ko
    obtain ⟨mo, mm, mc, hm2⟩ := hkoi.one
    rw [hm2, hCk] at hkoi
    have hwc := hok L[i] (List.getElem_mem hi)
    have HF : Hid (findS id L = L[i]) := by show _ = _; unfold findS; rw [hI]; exact getD_get hi
    have HX := hide hx
    have cS := fun W (hk : Kept [] w W) => copySession_call W L[i] _ (hkoi.kept hk) hwc
    have hxc : ∀ W, Kept [] w W → SeAt W g (i * 10) (L[i], .slice mo mm mc) := fun W hk => by
      have h1 := hx.kept hk (by simp)
      have e : X[i] = (L[i], .slice mo mm mc) := Prod.ext hCk hm2
      rw [e] at h1; exact h1
    have HXc := hide hxc
    rw [hI] at cI
    simp only [plV] at cI
    have hii : (i : Int) < X.length := by omega
    have hic : i ≤ vc := by omega
    obtain ⟨x, hxe⟩ : ∃ x, x = L[i] := ⟨_, rfl⟩
    rw [← hxe] at cS HF HXc
    unfold seV at cS
    clear hT1 h hx hCk hkoi hm2 hwc HX hxc hxe hat
    go_enter Try.func20, Try.ntmps20
    go_wp2_with fail
    refine cI.mono ?_
    rintro _ w2 ⟨rfl, hK2⟩
    have HK2 := hide (HKz.out.trans hK2 (by simp))
    have HZ2 := hide (hK2.at HZ.out (by simp))
    obtain ⟨h0, h1, h2, h3, h4, h5, h6, h7, h8, h9⟩ := HXc.out w2 HK2.out
    have hT2 := HT.out.kept HK2.out
    obtain ⟨c0, c1⟩ := hT2.cells
    clear hK2 cI hT2 hKz
    go_wp2_with fail
    refine (cS _ HK2.out).mono ?_
    rintro _ w3 ⟨u3, rfl, hO3, hK3⟩
    obtain ⟨a3, n3, c3, rfl⟩ := hO3.ko.one
    have hZ3 := hK3.at HZ2.out (by simp)
    clear h0 h1 h2 h3 h4 h5 h6 h7 h8 h9 c0 c1 cS
    have r0 := cell_inC (k := 0) hZ3 rfl
    have r1 := cell_inC (k := 1) hZ3 rfl
    have r2 := cell_inC (k := 2) hZ3 rfl
    have r3 := cell_inC (k := 3) hZ3 rfl
    have r4 := cell_inC (k := 4) hZ3 rfl
    have r5 := cell_inC (k := 5) hZ3 rfl
    have r6 := cell_inC (k := 6) hZ3 rfl
    have r7 := cell_inC (k := 7) hZ3 rfl
    have r8 := cell_inC (k := 8) hZ3 rfl
    have r9 := cell_inC (k := 9) hZ3 rfl
    have fr0 := froz3 hZ3 0
    have fr1 := froz3 hZ3 1
    have fr2 := froz3 hZ3 2
    have fr3 := froz3 hZ3 3
    have fr4 := froz3 hZ3 4
    have fr5 := froz3 hZ3 5
    have fr6 := froz3 hZ3 6
    have fr7 := froz3 hZ3 7
    have fr8 := froz3 hZ3 8
    have fr9 := froz3 hZ3 9
    have HZ3 := hide hZ3
    have HK3 := hide (HK2.out.trans hK3 (by simp))
    have HO3 := hide (hO3.mono HK2.out.size)
    clear hZ3 hK3 hO3
    go_wp2_with fail
    have HKe := hide (setA10_kept (Kept.refl [w.heap.size] w3) (b := w.heap.size) (by simp) (.int .i64 x.i) (.int .i64 x.q) (.string (str x.n)) (.int .i64 x.v.c) (.int .i64 x.v.s) (.int .i64 x.v.r) (.string (str x.v.p)) (.int .u64 x.v.d) (.slice a3 n3 c3) (.int .i64 x.v.m))
    refine bodyPost_ret (se_res2 (by rfl) _ (by rfl) (setA10_at HZ3.out rfl _ _ _ _ _ _ _ _ _ _) rfl) rfl ?_
    exact ⟨_, by unfold seV; rw [HF.out, hI]; rfl, by rw [HF.out]; exact HO3.out.keep HKe.out (typed1 HZ3.out) (by decide) (by decide), HK3.out.trans HKe.out (fun k hk => .inr (by simp at hk; omega))⟩

/-- What Ask tells, and leaves. -/
def AskP (w : World) (b sz : Nat) (v : Value) (id seq : Int) (L : List Se) (e : Ending) (w' : World) : Prop :=
  ∃ u, e = .returned (.tuple #[vtV (askV id seq L).1 u, .bool (askV id seq L).2]) ∧ KoO w.heap.size w' u (askV id seq L).1.k ∧ TbP w b sz v (askL id L) w'

theorem ask_end {w w4 w5 : World} {b sz : Nat} {v v4 : Value} {X4 : List (Se × Value)} {L4 : List Se} {vs : Array Value} (hT : TbA w4 b sz v4 X4 L4) (hK : Kept [b] w w4) (hv : ∀ k, v4.ownBlock = some k → v.ownBlock = some k ∨ w.heap.size ≤ k) (hKe : Kept [w.heap.size] w4 w5) (hZ : w4.heap[w.heap.size]? = some (.cells vs 31 (0, 0))) : TbP w b sz v L4 w5 :=
  ⟨v4, X4, hT.keepT hKe (typed1 hZ) (by decide) (by decide) (by decide) (by decide), hK.trans hKe (fun k hk => .inr (by simp at hk; omega)), hv⟩

set_option maxHeartbeats 8000000 in
set_option maxRecDepth 100000 in
theorem ask_call {w : World} {b sz : Nat} {v : Value} {X : List (Se × Value)} {L : List Se} (h : TbA w b sz v X L) (hl : L.length ≤ 100000) (hok : ∀ x ∈ L, okS x) (id seq : Int) :
    Calls Try.prog 12 #[.pointer (some ⟨b, 0, none⟩), .int .i64 id, .int .i64 seq] w fun e w' => AskP w b sz v id seq L e w' := by
  have hKz : Kept [] w (w.alloc (.cells #[.int .i64 0, .int .i64 0, .int .i64 0, .string ⟨#[]⟩, .int .u64 0, .slice none 0 0, .int .i64 0] 31)) := (Kept.refl [] w).alloc _
  have HKz := hide hKz
  have HZ := hide (heap_alloc_new w (.cells #[.int .i64 0, .int .i64 0, .int .i64 0, .string ⟨#[]⟩, .int .u64 0, .slice none 0 0, .int .i64 0] 31))
  have hT1 := h.kept hKz
  have cM := made_callT hT1
  have cI := byI_call hT1 hl id
  have HT := hide h
  have hblt := lt_of_at h.at_
  cases hI : byI id L with
  | none =>
    have HV : Hid (askV id seq L = (vtC 6, true)) := by show _ = _; unfold askV; rw [hI]
    have HLs : Hid (askL id L = L) := by show _ = _; unfold askL; rw [hI]
    rw [hI] at cI
    simp only [plV] at cI
    clear hT1 h
    go_enter Try.func12, Try.ntmps12
    go_wp2_with fail
    refine cM.mono ?_
    rintro _ W ⟨rfl, hW0⟩
    obtain rfl := hW0.symm
    go_wp2_with fail
    refine cI.mono ?_
    rintro _ w2 ⟨rfl, hK2⟩
    obtain ⟨w4, hw4⟩ : ∃ w4, w4 = w2 := ⟨_, rfl⟩
    rw [← hw4] at hK2 ⊢
    have HZ4 := hide (hK2.at HZ.out (by simp))
    have HT4 := hide ((HT.out.kept HKz.out).kept hK2)
    have HK4 : Hid (Kept [b] w w4) := (HKz.out.trans hK2 (by simp)).mono (by simp)
    have HV4 : Hid (∀ k, v.ownBlock = some k → v.ownBlock = some k ∨ w.heap.size ≤ k) := fun k hk => .inl hk
    clear hK2 cI cM hw4 hKz
    have hZ4 := HZ4.out
    have r0 := cell_inC (k := 0) hZ4 rfl
    have r1 := cell_inC (k := 1) hZ4 rfl
    have r2 := cell_inC (k := 2) hZ4 rfl
    have r3 := cell_inC (k := 3) hZ4 rfl
    have r4 := cell_inC (k := 4) hZ4 rfl
    have r5 := cell_inC (k := 5) hZ4 rfl
    have r6 := cell_inC (k := 6) hZ4 rfl
    have fr0 := froz3 hZ4 0
    have fr1 := froz3 hZ4 1
    have fr2 := froz3 hZ4 2
    have fr3 := froz3 hZ4 3
    have fr4 := froz3 hZ4 4
    have fr5 := froz3 hZ4 5
    have fr6 := froz3 hZ4 6
    clear hZ4
    go_wp2_with fail
    have HKe := hide (setA7_kept (Kept.refl [w.heap.size] w4) (b := w.heap.size) (by simp) (.int .i64 6) (.int .i64 0) (.int .i64 0) (.string ⟨#[]⟩) (.int .u64 0) (.slice none 0 0) (.int .i64 0))
    refine bodyPost_ret (vt_res2 (by rfl) _ (by rfl) (setA7_at HZ4.out rfl _ _ _ _ _ _ _) rfl) rfl ?_
    exact ⟨.slice none 0 0, by rw [HV.out]; rfl, by rw [HV.out]; exact KoO.nil _ _, by rw [HLs.out]; exact ask_end HT4.out HK4.out HV4.out HKe.out HZ4.out⟩
  | some i =>
    obtain ⟨hi, _⟩ := byI_lt hI
    have HLs : Hid (askL id L = useL L i) := by show _ = _; unfold askL; rw [hI]
    have HV0 : Hid (askV id seq L = tellV seq (L.getD i se0)) := by show _ = _; unfold askV; rw [hI]
    have HOx : Hid (okS (L.getD i se0)) := by show okS _; rw [getD_get hi]; exact hok _ (List.getElem_mem hi)
    rw [hI] at cI
    simp only [plV] at cI
    have cU := fun W (hk : Kept [] (w.alloc (.cells #[.int .i64 0, .int .i64 0, .int .i64 0, .string ⟨#[]⟩, .int .u64 0, .slice none 0 0, .int .i64 0] 31)) W) => use_call (hT1.kept hk) hl i hi
    unfold seV at cU
    generalize L.getD i se0 = x at *
    have hi0 : ¬ (i : Int) < 0 := by omega
    clear hT1 h
    go_enter Try.func12, Try.ntmps12
    go_wp2_with fail
    refine cM.mono ?_
    rintro _ W ⟨rfl, hW0⟩
    obtain rfl := hW0.symm
    go_wp2_with fail
    refine cI.mono ?_
    rintro _ w2 ⟨rfl, hK2⟩
    go_wp2_with fail
    refine (cU _ hK2).mono ?_
    rintro _ w3 ⟨u3, rfl, hO3, v3, X3, hT3, hK3, hv3⟩
    obtain ⟨a3, n3, c3, rfl⟩ := hO3.ko.one
    have HK3 : Hid (Kept [b] w w3) := ((HKz.out.trans hK2 (by simp)).mono (by simp)).trans hK3 (by simp)
    have HZ3 := hide (hK3.at (hK2.at HZ.out (by simp)) (by simp; omega))
    have HV3 : Hid (∀ k, v3.ownBlock = some k → v.ownBlock = some k ∨ w.heap.size ≤ k) := fun k hk => (hv3 k hk).imp (fun e => e) (fun e => Nat.le_trans (Nat.le_trans HKz.out.size hK2.size) e)
    obtain ⟨w4, hw4⟩ : ∃ w4, w4 = w3.alloc (.cells #[.int .i64 x.i, .int .i64 x.q, .string (str x.n), .int .i64 x.v.c, .int .i64 x.v.s, .int .i64 x.v.r, .string (str x.v.p), .int .u64 x.v.d, .slice a3 n3 c3, .int .i64 x.v.m] 44) := ⟨_, rfl⟩
    have hKa : Kept [] w3 w4 := by rw [hw4]; exact (Kept.refl _ _).alloc _
    have HB4 : Hid (w4.heap[w3.heap.size]? = some (.cells #[.int .i64 x.i, .int .i64 x.q, .string (str x.n), .int .i64 x.v.c, .int .i64 x.v.s, .int .i64 x.v.r, .string (str x.v.p), .int .u64 x.v.d, .slice a3 n3 c3, .int .i64 x.v.m] 44 (0, 0))) := by show _ = _; rw [hw4]; exact heap_alloc_new w3 _
    have HT4 := hide (hT3.kept hKa)
    have HZ4 := hide (hKa.at HZ3.out (by simp))
    have HK4 : Hid (Kept [b] w w4) := HK3.out.trans hKa (by simp)
    have HV4 := HV3
    have HO4 := hide (hO3.kept hKa)
    clear hT3 hK3 hv3 hO3 hK2 cU cI cM hKa hKz
    go_upto_region 7 with fail
    rw [← hw4]
    clear hw4
    by_cases h1 : seq < 1
    · have HV : Hid (askV id seq L = (vtC 5, true)) := by show _ = _; rw [HV0.out]; unfold tellV; rw [if_pos h1]
      have hZ4 := HZ4.out
      have r0 := cell_inC (k := 0) hZ4 rfl
      have r1 := cell_inC (k := 1) hZ4 rfl
      have r2 := cell_inC (k := 2) hZ4 rfl
      have r3 := cell_inC (k := 3) hZ4 rfl
      have r4 := cell_inC (k := 4) hZ4 rfl
      have r5 := cell_inC (k := 5) hZ4 rfl
      have r6 := cell_inC (k := 6) hZ4 rfl
      have fr0 := froz3 hZ4 0
      have fr1 := froz3 hZ4 1
      have fr2 := froz3 hZ4 2
      have fr3 := froz3 hZ4 3
      have fr4 := froz3 hZ4 4
      have fr5 := froz3 hZ4 5
      have fr6 := froz3 hZ4 6
      clear hZ4
      go_wp2_with fail
      have HKe := hide (setA7_kept (Kept.refl [w.heap.size] w4) (b := w.heap.size) (by simp) (.int .i64 5) (.int .i64 0) (.int .i64 0) (.string ⟨#[]⟩) (.int .u64 0) (.slice none 0 0) (.int .i64 0))
      refine bodyPost_ret (vt_res2 (by rfl) _ (by rfl) (setA7_at HZ4.out rfl _ _ _ _ _ _ _) rfl) rfl ?_
      exact ⟨.slice none 0 0, by rw [HV.out]; rfl, by rw [HV.out]; exact KoO.nil _ _, by rw [HLs.out]; exact ask_end HT4.out HK4.out HV4.out HKe.out HZ4.out⟩
    · have q1 := cell_inC (k := 1) HB4.out rfl
      by_cases h2 : seq < x.q
      · have HV : Hid (askV id seq L = (vtC 7, true)) := by show _ = _; rw [HV0.out]; unfold tellV; rw [if_neg h1, if_pos h2]
        have hZ4 := HZ4.out
        have r0 := cell_inC (k := 0) hZ4 rfl
        have r1 := cell_inC (k := 1) hZ4 rfl
        have r2 := cell_inC (k := 2) hZ4 rfl
        have r3 := cell_inC (k := 3) hZ4 rfl
        have r4 := cell_inC (k := 4) hZ4 rfl
        have r5 := cell_inC (k := 5) hZ4 rfl
        have r6 := cell_inC (k := 6) hZ4 rfl
        have fr0 := froz3 hZ4 0
        have fr1 := froz3 hZ4 1
        have fr2 := froz3 hZ4 2
        have fr3 := froz3 hZ4 3
        have fr4 := froz3 hZ4 4
        have fr5 := froz3 hZ4 5
        have fr6 := froz3 hZ4 6
        clear hZ4
        go_wp2_with fail
        have HKe := hide (setA7_kept (Kept.refl [w.heap.size] w4) (b := w.heap.size) (by simp) (.int .i64 7) (.int .i64 0) (.int .i64 0) (.string ⟨#[]⟩) (.int .u64 0) (.slice none 0 0) (.int .i64 0))
        refine bodyPost_ret (vt_res2 (by rfl) _ (by rfl) (setA7_at HZ4.out rfl _ _ _ _ _ _ _) rfl) rfl ?_
        exact ⟨.slice none 0 0, by rw [HV.out]; rfl, by rw [HV.out]; exact KoO.nil _ _, by rw [HLs.out]; exact ask_end HT4.out HK4.out HV4.out HKe.out HZ4.out⟩
      · by_cases h3 : seq = x.q
        · have HV : Hid (askV id seq L = (x.v, true)) := by show _ = _; rw [HV0.out]; unfold tellV; rw [if_neg h1, if_neg h2, if_pos h3]
          have q3 := cell_inC (k := 3) HB4.out rfl
          have q4 := cell_inC (k := 4) HB4.out rfl
          have q5 := cell_inC (k := 5) HB4.out rfl
          have q6 := cell_inC (k := 6) HB4.out rfl
          have q7 := cell_inC (k := 7) HB4.out rfl
          have q8 := cell_inC (k := 8) HB4.out rfl
          have q9 := cell_inC (k := 9) HB4.out rfl
          have cV := copyVerdict_call w4 x.v _ HO4.out.ko HOx.out.2
          unfold vtV at cV
          have hsw : w.heap.size ≤ w4.heap.size := HK4.out.size
          go_wp2_with fail
          refine cV.mono ?_
          rintro _ w5 ⟨u5, rfl, hO5, hK5⟩
          obtain ⟨a5, n5, c5, rfl⟩ := hO5.ko.one
          have HZ5 := hide (hK5.at HZ4.out (by simp))
          have HT5 := hide (HT4.out.kept hK5)
          have HK5 := hide (HK4.out.trans hK5 (by simp))
          have HO5 := hide (hO5.mono hsw)
          clear hO5 hK5 cV q1 q3 q4 q5 q6 q7 q8 q9
          have hZ5 := HZ5.out
          have r0 := cell_inC (k := 0) hZ5 rfl
          have r1 := cell_inC (k := 1) hZ5 rfl
          have r2 := cell_inC (k := 2) hZ5 rfl
          have r3 := cell_inC (k := 3) hZ5 rfl
          have r4 := cell_inC (k := 4) hZ5 rfl
          have r5 := cell_inC (k := 5) hZ5 rfl
          have r6 := cell_inC (k := 6) hZ5 rfl
          have fr0 := froz3 hZ5 0
          have fr1 := froz3 hZ5 1
          have fr2 := froz3 hZ5 2
          have fr3 := froz3 hZ5 3
          have fr4 := froz3 hZ5 4
          have fr5 := froz3 hZ5 5
          have fr6 := froz3 hZ5 6
          clear hZ5
          go_wp2_with fail
          have HKe := hide (setA7_kept (Kept.refl [w.heap.size] w5) (b := w.heap.size) (by simp) (.int .i64 x.v.c) (.int .i64 x.v.s) (.int .i64 x.v.r) (.string (str x.v.p)) (.int .u64 x.v.d) (.slice a5 n5 c5) (.int .i64 x.v.m))
          refine bodyPost_ret (vt_res2 (by rfl) _ (by rfl) (setA7_at HZ5.out rfl _ _ _ _ _ _ _) rfl) rfl ?_
          exact ⟨_, by rw [HV.out]; rfl, by rw [HV.out]; exact HO5.out.keep HKe.out (typed1 HZ5.out) (by decide) (by decide), by rw [HLs.out]; exact ask_end HT5.out HK5.out HV4.out HKe.out HZ5.out⟩
        · have HV : Hid (askV id seq L = (vtC 0, false)) := by show _ = _; rw [HV0.out]; unfold tellV; rw [if_neg h1, if_neg h2, if_neg h3]
          have hZ4 := HZ4.out
          have r0 := cell_inC (k := 0) hZ4 rfl
          have r1 := cell_inC (k := 1) hZ4 rfl
          have r2 := cell_inC (k := 2) hZ4 rfl
          have r3 := cell_inC (k := 3) hZ4 rfl
          have r4 := cell_inC (k := 4) hZ4 rfl
          have r5 := cell_inC (k := 5) hZ4 rfl
          have r6 := cell_inC (k := 6) hZ4 rfl
          have fr0 := froz3 hZ4 0
          have fr1 := froz3 hZ4 1
          have fr2 := froz3 hZ4 2
          have fr3 := froz3 hZ4 3
          have fr4 := froz3 hZ4 4
          have fr5 := froz3 hZ4 5
          have fr6 := froz3 hZ4 6
          clear hZ4
          go_wp2_with fail
          have HKe := hide (setA7_kept (Kept.refl [w.heap.size] w4) (b := w.heap.size) (by simp) (.int .i64 0) (.int .i64 0) (.int .i64 0) (.string ⟨#[]⟩) (.int .u64 0) (.slice none 0 0) (.int .i64 0))
          refine bodyPost_ret (vt_res2 (by rfl) _ (by rfl) (setA7_at HZ4.out rfl _ _ _ _ _ _ _) rfl) rfl ?_
          exact ⟨.slice none 0 0, by rw [HV.out]; rfl, by rw [HV.out]; exact KoO.nil _ _, by rw [HLs.out]; exact ask_end HT4.out HK4.out HV4.out HKe.out HZ4.out⟩

end Go.Proofs.Ytajkmhepedlmmaa
