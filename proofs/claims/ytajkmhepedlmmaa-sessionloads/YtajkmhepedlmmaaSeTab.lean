/-
  A table in memory; made, place, placeOf.
-/
import Derived.Test.YtajkmhepedlmmaaSeCopy3
namespace Go.Proofs.Ytajkmhepedlmmaa
open Go.RowKit

/-- A table in memory, by its parts. -/
structure TbA (w : World) (b sz : Nat) (v : Value) (X : List (Se × Value)) (L : List Se) : Prop where
  at_ : w.heap[b]? = some (.cells #[.int .i64 sz, v] 68 (0, 0))
  pos : 1 ≤ sz
  row : TRow w v X
  own : ∀ x ∈ X, KoO 0 w x.2 x.1.v.k
  ses : X.map Prod.fst = L

/-- Its own blocks. -/
def ownT (b : Nat) (v : Value) : List Nat := b :: v.ownBlock.toList

theorem TbA.keep {w w' : World} {b sz : Nat} {v : Value} {X : List (Se × Value)} {L : List Se} (h : TbA w b sz v X L) {S : List Nat} {Ts : List TypeId} (k : Kept S w w') (hS : ∀ i ∈ ownT b v, i ∉ S) (hT : Typed w S Ts) (h1 : 65 ∉ Ts) (h2 : 89 ∉ Ts) : TbA w' b sz v X L :=
  ⟨k.at h.at_ (hS b (by simp [ownT])), h.pos, h.row.keep k (fun i hi => hS i (by simp [ownT, hi])), fun x hx => (h.own x hx).keep k hT h1 h2, h.ses⟩

theorem TbA.kept {w w' : World} {b sz : Nat} {v : Value} {X : List (Se × Value)} {L : List Se} (h : TbA w b sz v X L) (k : Kept [] w w') : TbA w' b sz v X L :=
  h.keep k (by simp) (typed_nil w []) (by simp) (by simp)

theorem TbA.lt {w : World} {b sz : Nat} {v : Value} {X : List (Se × Value)} {L : List Se} (h : TbA w b sz v X L) : ∀ k ∈ ownT b v, k < w.heap.size := by
  intro k hk
  rcases List.mem_cons.1 hk with rfl | hk
  · exact lt_of_at h.at_
  · obtain ⟨c2, h2⟩ := h.row.block (mem_own.1 hk)
    exact lt_of_at h2

theorem TbA.cells {w : World} {b sz : Nat} {v : Value} {X : List (Se × Value)} {L : List Se} (h : TbA w b sz v X L) : w.cell? ⟨b, 0, none⟩ = some (.int .i64 sz) ∧ w.cell? ⟨b, 1, none⟩ = some v :=
  ⟨cell_inC h.at_ rfl, cell_inC h.at_ rfl⟩

theorem TbA.len {w : World} {b sz : Nat} {v : Value} {X : List (Se × Value)} {L : List Se} (h : TbA w b sz v X L) : X.length = L.length := by rw [← h.ses]; simp

theorem TbA.sl {w : World} {b sz : Nat} {v : Value} {X : List (Se × Value)} {L : List Se} (h : TbA w b sz v X L) : ∃ ao c, v = .slice ao X.length c ∧ SlS w ao X.length c X := h.row.sl fun x hx => (h.own x hx).ko

set_option maxHeartbeats 1000000 in
theorem made_callT {w : World} {b sz : Nat} {v : Value} {X : List (Se × Value)} {L : List Se} (h : TbA w b sz v X L) :
    Calls Try.prog 29 #[.pointer (some ⟨b, 0, none⟩)] w fun e w' => e = .returned (.bool true) ∧ w' = w := by
  obtain ⟨c0, _⟩ := h.cells
  have hp := h.pos
  have hd : decide (0 < sz) = true := by simp; omega
  clear h hp
  go_enter Try.func29, Try.ntmps29
  go_wp2
  go_ret
  exact ⟨rfl, rfl⟩

theorem eq_dec (a b : Int) : (a == b) = decide (a = b) := by rw [Bool.eq_iff_iff]; simp

theorem str_list (l : List UInt8) : (str l).toList = l := by rw [Go.ByteArray.toList_eq, str_data]

theorem str_dec (a b : List UInt8) : ((str a).toList == (str b).toList) = decide (a = b) := by rw [str_list, str_list, Bool.eq_iff_iff]; simp

set_option maxHeartbeats 1000000 in
theorem byI_one (w : World) (x : Se) (ao : Option Addr) (n c p : Nat) (id : Int) (hp : w.cell? ⟨p, 0, none⟩ = some (.int .i64 id)) :
    Calls Try.prog 45 #[seV x (.slice ao n c), .pointer (some ⟨p, 0, none⟩)] w fun e w' => e = .returned (.bool (decide (x.i = id))) ∧ Kept [] w w' := by
  have hK := (Kept.refl [] w).alloc (.cells #[.int .i64 x.i, .int .i64 x.q, .string (str x.n), .int .i64 x.v.c, .int .i64 x.v.s, .int .i64 x.v.r, .string (str x.v.p), .int .u64 x.v.d, .slice ao n c, .int .i64 x.v.m] 44)
  have hp2 := hK.cell hp (by simp)
  unfold seV
  go_enter Try.func45, Try.ntmps45
  go_wp2
  go_ret
  exact ⟨congrArg (fun z => Ending.returned (.bool z)) (eq_dec _ _), hK⟩

set_option maxHeartbeats 1000000 in
theorem byN_one (w : World) (x : Se) (ao : Option Addr) (n c p : Nat) (nm : List UInt8) (hp : w.cell? ⟨p, 0, none⟩ = some (.string (str nm))) :
    Calls Try.prog 44 #[seV x (.slice ao n c), .pointer (some ⟨p, 0, none⟩)] w fun e w' => e = .returned (.bool (decide (x.n = nm))) ∧ Kept [] w w' := by
  have hK := (Kept.refl [] w).alloc (.cells #[.int .i64 x.i, .int .i64 x.q, .string (str x.n), .int .i64 x.v.c, .int .i64 x.v.s, .int .i64 x.v.r, .string (str x.v.p), .int .u64 x.v.d, .slice ao n c, .int .i64 x.v.m] 44)
  have hp2 := hK.cell hp (by simp)
  unfold seV
  go_enter Try.func44, Try.ntmps44
  go_wp2
  go_ret
  exact ⟨congrArg (fun z => Ending.returned (.bool z)) (str_dec _ _), hK⟩

/-- A place, as the program tells it. -/
def plV : Option Nat → Value
  | some i => .int .i64 (i : Int)
  | none => .int .i64 (-1)

def IxI (w : World) (L : List Se) (f : Se → Bool) (iv : Value) (wr : World) : Prop := ∃ j : Nat, iv = .int .i64 (j : Int) ∧ j ≤ L.length ∧ Hid (∀ k (h : k < L.length), k < j → f L[k] = false) ∧ Hid (Kept [] w wr)

theorem find_at {L : List Se} {f : Se → Bool} {j : Nat} (hj : j < L.length) (h : ∀ k (h : k < L.length), k < j → f L[k] = false) (ht : f L[j] = true) : L.findIdx? f = some j := by
  rw [List.findIdx?_eq_some_iff_getElem]
  exact ⟨hj, ht, fun k hk => by simpa using h k (by omega) hk⟩

theorem find_none {L : List Se} {f : Se → Bool} {j : Nat} (hj : ¬ j < L.length) (h : ∀ k (h : k < L.length), k < j → f L[k] = false) : L.findIdx? f = none := by
  rw [List.findIdx?_eq_none_iff]
  intro x hx
  obtain ⟨k, hk, rfl⟩ := List.getElem_of_mem hx
  exact h k hk (by omega)

set_option maxHeartbeats 4000000 in
set_option maxRecDepth 100000 in
theorem byI_index (w : World) (v : Value) (X : List (Se × Value)) (L : List Se) (hR : TRow w v X) (hcom : X.map Prod.fst = L) (ho : ∀ x ∈ X, KoV w x.2 x.1.v.k) (hn : X.length ≤ 100000) (p : Nat) (id : Int) (hp : w.cell? ⟨p, 0, none⟩ = some (.int .i64 id)) :
    Calls Try.prog 51 #[v, .func (.func 45) #[] #[.pointer (some ⟨p, 0, none⟩)]] w fun e w' => e = .returned (plV (byI id L)) ∧ Kept [] w w' := by
  obtain ⟨ao, c, rfl, hc, hm, _, hat⟩ := hR.shape
  unfold maxLen at hm
  have HA := hide hat
  have HCom := hide hcom
  have HKo := hide ho
  have hl : X.length = L.length := by rw [← hcom]; simp
  have HL := hide hl
  obtain ⟨n, hn2⟩ : ∃ n, n = X.length := ⟨_, rfl⟩
  have HN := hide hn2
  rw [← hn2] at hc hn ⊢
  have HP := hide hp
  clear hat hcom ho hl hR hn2 hp
  go_enter Try.func51, Try.ntmps51
  go_wp2_with fail
  go_loopw [8] (fun iv wr => IxI w L (fun x => decide (x.i = id)) iv wr) (fun iv _ => n - (intOf iv).toNat)
  case atStart => exact ⟨0, rfl, Nat.zero_le _, fun k _ hk => by omega, Kept.refl _ _⟩
  case round =>
    obtain ⟨j, rfl, hj, HF, HK⟩ := hrel
    by_cases hlt : j < n
    · have hlt' : (j : Int) < n := by omega
      have hjc : j ≤ c := by omega
      have hjX : j < X.length := by rw [← HN.out]; exact hlt
      have hjL : j < L.length := by rw [← HL.out]; exact hjX
      have hCk := fst_get HCom.out hjX hjL
      obtain ⟨g, he, hx⟩ := HA.out j hjX
      have hko := (HKo.out _ (List.getElem_mem hjX)).kept HK.out
      subst he
      obtain ⟨h0, h1, h2, h3, h4, h5, h6, h7, h8, h9⟩ := hx.kept HK.out (by simp)
      rw [hCk] at h0 h1 h2 h3 h4 h5 h6 h7 h9
      obtain ⟨mo, mm, mc, hm2⟩ := hko.one
      rw [hm2] at h8
      have HT := hide (fun h => find_at (f := fun x => decide (x.i = id)) hjL HF.out h)
      have cK := byI_one wr L[j] mo mm mc p id (HK.out.cell HP.out (by simp))
      have HF2 : Hid (decide (L[j].i = id) = false → ∀ k (h : k < L.length), k < j + 1 → (fun x : Se => decide (x.i = id)) L[k] = false) := fun h k hk hk2 => by
        by_cases e : k = j
        · subst e; exact h
        · exact HF.out k hk (by omega)
      generalize L[j] = x at *
      unfold seV at cK
      clear hx hko hCk hm2 hjX
      go_wp2_with fail
      refine cK.mono ?_
      rintro _ w5 ⟨rfl, hK5⟩
      replace hK5 := hide (HK.out.trans hK5 (by simp))
      clear cK h0 h1 h2 h3 h4 h5 h6 h7 h8 h9
      cases hd : decide (x.i = id) with
      | true =>
        have HE : Hid (byI id L = some j) := HT.out hd
        go_wp2_with fail
        go_ret
        exact ⟨by rw [HE.out]; rfl, hK5.out⟩
      | false =>
        have HE := hide (HF2.out hd)
        go_wp2_with fail
        go_roundw
        case rel => exact ⟨j + 1, by go_num, hjL, HE, hK5⟩
        case measure => simp [intOf]; omega
    · have hlt' : ¬ (j : Int) < n := by omega
      have HE : Hid (byI id L = none) := find_none (j := j) (by rw [← HL.out, ← HN.out]; exact hlt) HF.out
      go_wp2_with fail
      go_ret
      exact ⟨by rw [HE.out]; rfl, HK.out⟩

set_option maxHeartbeats 2000000 in
theorem byI_call {w : World} {b sz : Nat} {v : Value} {X : List (Se × Value)} {L : List Se} (h : TbA w b sz v X L) (hn : L.length ≤ 100000) (id : Int) :
    Calls Try.prog 32 #[.pointer (some ⟨b, 0, none⟩), .int .i64 id] w fun e w' => e = .returned (plV (byI id L)) ∧ Kept [] w w' := by
  have hK := (Kept.refl [] w).alloc (.cells #[.int .i64 id] 3)
  have h1 := h.kept hK
  have cM := made_callT h1
  have cI := byI_index _ v X L h1.row h1.ses (fun x hx => (h1.own x hx).ko) (by rw [h.len]; exact hn) w.heap.size id (cell_inC (heap_alloc_new w _) rfl)
  have cF : Calls Try.prog 43 #[.pointer (some ⟨b, 0, none⟩), .func (.func 45) #[] #[.pointer (some ⟨w.heap.size, 0, none⟩)]] (w.alloc (.cells #[.int .i64 id] 3)) fun e w' => e = .returned (plV (byI id L)) ∧ Kept [] (w.alloc (.cells #[.int .i64 id] 3)) w' := by
    obtain ⟨c0, c1⟩ := h1.cells
    obtain ⟨ao, c, rfl, _⟩ := h1.row.shape
    generalize w.alloc (.cells #[.int .i64 id] 3) = W at *
    clear h h1 hK
    go_enter Try.func43, Try.ntmps43
    go_wp2_with fail
    refine cM.mono ?_
    rintro _ _ ⟨rfl, rfl⟩
    go_wp2_with fail
    refine cI.mono ?_
    rintro _ w2 ⟨rfl, hK2⟩
    go_wp2_with fail
    go_ret
    exact ⟨rfl, hK2⟩
  have hmf : ∀ (fn : Fn) (first cap : Array Value) (w : World), (Instr.makeFunc fn first cap).run Try.prog w = .ok (.func fn first cap) w := fun _ _ _ _ => rfl
  clear cM cI h h1
  go_enter Try.func32, Try.ntmps32
  go_wp2_with fail
  refine cF.mono ?_
  rintro _ w2 ⟨rfl, hK2⟩
  go_wp2_with fail
  go_ret
  exact ⟨rfl, hK.trans hK2 (by simp)⟩

set_option maxHeartbeats 4000000 in
set_option maxRecDepth 100000 in
theorem byN_index (w : World) (v : Value) (X : List (Se × Value)) (L : List Se) (hR : TRow w v X) (hcom : X.map Prod.fst = L) (ho : ∀ x ∈ X, KoV w x.2 x.1.v.k) (hn : X.length ≤ 100000) (p : Nat) (nm : List UInt8) (hp : w.cell? ⟨p, 0, none⟩ = some (.string (str nm))) :
    Calls Try.prog 51 #[v, .func (.func 44) #[] #[.pointer (some ⟨p, 0, none⟩)]] w fun e w' => e = .returned (plV (byN nm L)) ∧ Kept [] w w' := by
  obtain ⟨ao, c, rfl, hc, hm, _, hat⟩ := hR.shape
  unfold maxLen at hm
  have HA := hide hat
  have HCom := hide hcom
  have HKo := hide ho
  have hl : X.length = L.length := by rw [← hcom]; simp
  have HL := hide hl
  obtain ⟨n, hn2⟩ : ∃ n, n = X.length := ⟨_, rfl⟩
  have HN := hide hn2
  rw [← hn2] at hc hn ⊢
  have HP := hide hp
  clear hat hcom ho hl hR hn2 hp
  go_enter Try.func51, Try.ntmps51
  go_wp2_with fail
  go_loopw [8] (fun iv wr => IxI w L (fun x => decide (x.n = nm)) iv wr) (fun iv _ => n - (intOf iv).toNat)
  case atStart => exact ⟨0, rfl, Nat.zero_le _, fun k _ hk => by omega, Kept.refl _ _⟩
  case round =>
    obtain ⟨j, rfl, hj, HF, HK⟩ := hrel
    by_cases hlt : j < n
    · have hlt' : (j : Int) < n := by omega
      have hjc : j ≤ c := by omega
      have hjX : j < X.length := by rw [← HN.out]; exact hlt
      have hjL : j < L.length := by rw [← HL.out]; exact hjX
      have hCk := fst_get HCom.out hjX hjL
      obtain ⟨g, he, hx⟩ := HA.out j hjX
      have hko := (HKo.out _ (List.getElem_mem hjX)).kept HK.out
      subst he
      obtain ⟨h0, h1, h2, h3, h4, h5, h6, h7, h8, h9⟩ := hx.kept HK.out (by simp)
      rw [hCk] at h0 h1 h2 h3 h4 h5 h6 h7 h9
      obtain ⟨mo, mm, mc, hm2⟩ := hko.one
      rw [hm2] at h8
      have HT := hide (fun h => find_at (f := fun x => decide (x.n = nm)) hjL HF.out h)
      have cK := byN_one wr L[j] mo mm mc p nm (HK.out.cell HP.out (by simp))
      have HF2 : Hid (decide (L[j].n = nm) = false → ∀ k (h : k < L.length), k < j + 1 → (fun x : Se => decide (x.n = nm)) L[k] = false) := fun h k hk hk2 => by
        by_cases e : k = j
        · subst e; exact h
        · exact HF.out k hk (by omega)
      generalize L[j] = x at *
      unfold seV at cK
      clear hx hko hCk hm2 hjX
      go_wp2_with fail
      refine cK.mono ?_
      rintro _ w5 ⟨rfl, hK5⟩
      replace hK5 := hide (HK.out.trans hK5 (by simp))
      clear cK h0 h1 h2 h3 h4 h5 h6 h7 h8 h9
      cases hd : decide (x.n = nm) with
      | true =>
        have HE : Hid (byN nm L = some j) := HT.out hd
        go_wp2_with fail
        go_ret
        exact ⟨by rw [HE.out]; rfl, hK5.out⟩
      | false =>
        have HE := hide (HF2.out hd)
        go_wp2_with fail
        go_roundw
        case rel => exact ⟨j + 1, by go_num, hjL, HE, hK5⟩
        case measure => simp [intOf]; omega
    · have hlt' : ¬ (j : Int) < n := by omega
      have HE : Hid (byN nm L = none) := find_none (j := j) (by rw [← HL.out, ← HN.out]; exact hlt) HF.out
      go_wp2_with fail
      go_ret
      exact ⟨by rw [HE.out]; rfl, HK.out⟩

set_option maxHeartbeats 2000000 in
theorem byN_call {w : World} {b sz : Nat} {v : Value} {X : List (Se × Value)} {L : List Se} (h : TbA w b sz v X L) (hn : L.length ≤ 100000) (nm : List UInt8) :
    Calls Try.prog 30 #[.pointer (some ⟨b, 0, none⟩), .string (str nm)] w fun e w' => e = .returned (plV (byN nm L)) ∧ Kept [] w w' := by
  have hK := (Kept.refl [] w).alloc (.cells #[.string (str nm)] 9)
  have h1 := h.kept hK
  have cM := made_callT h1
  have cI := byN_index _ v X L h1.row h1.ses (fun x hx => (h1.own x hx).ko) (by rw [h.len]; exact hn) w.heap.size nm (cell_inC (heap_alloc_new w _) rfl)
  have cF : Calls Try.prog 43 #[.pointer (some ⟨b, 0, none⟩), .func (.func 44) #[] #[.pointer (some ⟨w.heap.size, 0, none⟩)]] (w.alloc (.cells #[.string (str nm)] 9)) fun e w' => e = .returned (plV (byN nm L)) ∧ Kept [] (w.alloc (.cells #[.string (str nm)] 9)) w' := by
    obtain ⟨c0, c1⟩ := h1.cells
    obtain ⟨ao, c, rfl, _⟩ := h1.row.shape
    generalize w.alloc (.cells #[.string (str nm)] 9) = W at *
    clear h h1 hK
    go_enter Try.func43, Try.ntmps43
    go_wp2_with fail
    refine cM.mono ?_
    rintro _ _ ⟨rfl, rfl⟩
    go_wp2_with fail
    refine cI.mono ?_
    rintro _ w2 ⟨rfl, hK2⟩
    go_wp2_with fail
    go_ret
    exact ⟨rfl, hK2⟩
  have hmf : ∀ (fn : Fn) (first cap : Array Value) (w : World), (Instr.makeFunc fn first cap).run Try.prog w = .ok (.func fn first cap) w := fun _ _ _ _ => rfl
  clear cM cI h h1
  go_enter Try.func30, Try.ntmps30
  go_wp2_with fail
  refine cF.mono ?_
  rintro _ w2 ⟨rfl, hK2⟩
  go_wp2_with fail
  go_ret
  exact ⟨rfl, hK.trans hK2 (by simp)⟩

end Go.Proofs.Ytajkmhepedlmmaa
