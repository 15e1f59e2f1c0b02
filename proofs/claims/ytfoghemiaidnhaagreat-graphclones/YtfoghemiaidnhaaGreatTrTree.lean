/-
  A tree: New, Put, Len, Depth; get.
-/
import Derived.Test.YtfoghemiaidnhaaGreatTrPut
namespace Go.Proofs.YtfoghemiaidnhaaGreat
open Go.RowKit

/-- The tree t stands at p, in blocks below B; a nil one is an empty one. -/
def TAt (B : Nat) (w : World) (p : Option Addr) (t : Tr) : Prop :=
  (p = none ∧ t = .nil) ∨ ∃ (b : Nat) (q : Option Addr), p = some ⟨b, 0, none⟩ ∧ b < B ∧ w.heap[b]? = some (.cells #[.bool true, .pointer q] 102 (0, 0)) ∧ NAt B w q t

theorem TAt.same {B : Nat} {a w : World} (h : ∀ k, k < B → k < a.heap.size → w.heap[k]? = a.heap[k]?) {p : Option Addr} {t : Tr} (ht : TAt B a p t) : TAt B w p t := by
  rcases ht with ht | ⟨b, q, h1, h2, h3, h4⟩
  · exact .inl ht
  · exact .inr ⟨b, q, h1, h2, by rw [h b h2 (lt_of_at h3), h3], h4.same h⟩

theorem TAt.kept {B : Nat} {a w : World} (h : Kept [] a w) {p : Option Addr} {t : Tr} (ht : TAt B a p t) : TAt B w p t :=
  ht.same fun k _ hk => h.block k hk (by simp)

theorem TAt.below {B : Nat} {a w : World} (h : Below B a w) {p : Option Addr} {t : Tr} (ht : TAt B a p t) : TAt B w p t :=
  ht.same fun k hk _ => h.block k hk

theorem TAt.mono {B C : Nat} {w : World} (hB : B ≤ C) {p : Option Addr} {t : Tr} (ht : TAt B w p t) : TAt C w p t := by
  rcases ht with ht | ⟨b, q, h1, h2, h3, h4⟩
  · exact .inl ht
  · exact .inr ⟨b, q, h1, by omega, h3, h4.mono hB⟩

theorem TAt.full {B : Nat} {w : World} {p : Option Addr} {t : Tr} (ht : TAt B w p t) : TAt w.heap.size w p t := by
  rcases ht with ht | ⟨b, q, h1, _, h3, h4⟩
  · exact .inl ht
  · exact .inr ⟨b, q, h1, lt_of_at h3, h3, h4.full⟩

theorem cells2 {w : World} {b : Nat} {v0 v1 : Value} {t : TypeId} (h : w.heap[b]? = some (.cells #[v0, v1] t (0, 0))) : w.cell? ⟨b, 0, none⟩ = some v0 ∧ w.cell? ⟨b, 1, none⟩ = some v1 :=
  ⟨cell_in h rfl, cell_in h rfl⟩

theorem frozen_in {w : World} {b : Nat} {vs : Array Value} {t : TypeId} (h : w.heap[b]? = some (.cells vs t (0, 0))) (k : Nat) : w.frozen? ⟨b, k, none⟩ = false := by
  simp [World.frozen?, h]

/-- A leaf's block, one cell of which is written anew as it was. -/
theorem cells4_set {w : World} {b : Nat} {v0 v1 v2 v3 : Value} {t : TypeId} (h : w.heap[b]? = some (.cells #[v0, v1, v2, v3] t (0, 0))) : (w.setCell ⟨b, 0, none⟩ v0).heap[b]? = some (.cells #[v0, v1, v2, v3] t (0, 0)) := by
  obtain ⟨hlt, hk⟩ := Array.getElem?_eq_some_iff.1 h
  show (w.heap.modify b _)[b]? = _
  rw [Array.getElem?_eq_getElem (by rw [Array.size_modify]; exact hlt), Array.getElem_modify_self, hk]
  rfl

set_option maxHeartbeats 1000000 in
theorem top_call (B : Nat) (w : World) (p : Option Addr) (t : Tr) (h : TAt B w p t) :
    Calls Tryz.prog 66 #[.pointer p] w fun e w' => (∃ q, e = .returned (.pointer q) ∧ NAt B w q t) ∧ w' = w := by
  rcases h with ⟨rfl, rfl⟩ | ⟨b, q, rfl, h2, h3, h4⟩
  · go_enter Tryz.func66, Tryz.ntmps66
    go_wp2
    go_ret
    exact ⟨⟨none, rfl, rfl⟩, rfl⟩
  · obtain ⟨c0, c1⟩ := cells2 h3
    clear h3
    go_enter Tryz.func66, Tryz.ntmps66
    go_wp2
    go_ret
    exact ⟨⟨q, rfl, h4⟩, rfl⟩

set_option maxHeartbeats 1000000 in
theorem new_call (w : World) :
    Calls Tryz.prog 25 #[] w fun e w' => ∃ p, e = .returned (.pointer p) ∧ TAt w'.heap.size w' p .nil ∧ Kept [] w w' := by
  go_enter Tryz.func25, Tryz.ntmps25
  go_wp2
  go_ret
  exact ⟨_, rfl, .inr ⟨w.heap.size, none, rfl, by simp, heap_alloc_new w _, rfl⟩, (Kept.refl _ _).alloc _⟩

set_option maxHeartbeats 1000000 in
theorem tree_clone (l : List UInt8) (w : World) (hl : l.length ≤ 140737488355328) :
    Calls Tryz.prog 31 #[.string (str l)] w fun e w' => e = .returned (.string (str l)) ∧ Kept [] w w' := by
  have cC := Tryz.stringslite_Clone (str l)
  have hl' : (str l).size ≤ 281474976710656 := by rw [str_size]; omega
  go_enter Tryz.func31, Tryz.ntmps31
  go_wp2_with fail
  refine (cC _ hl').mono ?_
  rintro e w' ⟨rfl, hB⟩
  go_wp2
  go_ret
  exact ⟨rfl, Kept.of_below hB⟩

set_option maxHeartbeats 4000000 in
set_option maxRecDepth 100000 in
theorem tPut_call (x : Lf) (hx : x.p.length ≤ 140737488355328) (B : Nat) (w : World) (p : Option Addr) (t : Tr) (h : TAt B w p t) (hs : t.size ≤ 100000000000) :
    Calls Tryz.prog 62 #[.pointer p, lfV x] w fun e w' => ∃ q, e = .returned (.pointer q) ∧ TAt w'.heap.size w' q (t.put x) ∧ Kept [] w w' := by
  have c1 := fun w' (hk : Kept [] w w') => top_call B w' p t (h.kept hk)
  have c2 := fun w' q (hq : NAt B w' q t) => put_call x hx t B w' q hq hs
  have cC := fun w' => tree_clone x.p w' hx
  have hp : p = none ∨ ∃ b, p = some ⟨b, 0, none⟩ ∧ w.cell? ⟨b, 0, none⟩ = some (.bool true) := by
    rcases h with ⟨rfl, _⟩ | ⟨b, q, rfl, h2, h3, h4⟩
    · exact .inl rfl
    · exact .inr ⟨b, rfl, (cells2 h3).1⟩
  have q4 := heap_alloc_new w (.cells #[.string (str x.p), .int .u64 x.d, .int .i64 x.r, .bool x.g] 79)
  obtain ⟨b0, b1, b2, b3⟩ := cells4 q4
  have hK0 := (Kept.refl [] w).alloc (.cells #[.string (str x.p), .int .u64 x.d, .int .i64 x.r, .bool x.g] 79)
  unfold lfV at c2 ⊢
  clear h hs
  rcases hp with rfl | ⟨b, rfl, hb⟩
  · go_enter Tryz.func62, Tryz.ntmps62
    go_wp2_with fail
    refine (cC _).mono ?_
    rintro e w1 ⟨rfl, hK1⟩
    have q5 := hK1.at q4 (by simp)
    have f5 := frozen_in q5 0
    obtain ⟨m0, m1, m2, m3⟩ := cells4 q5
    obtain ⟨n0, n1, n2, n3⟩ := cells4 (cells4_set q5)
    have hK2 : Kept [] w (w1.setCell ⟨w.heap.size, 0, none⟩ (.string (str x.p))) := (hK0.trans hK1 (by simp)).setCell (.inr (Nat.le_refl _)) _
    clear b0 b1 b2 b3 q4
    go_wp2_with fail
    go_region_held3 (fun w' => w'.cell? ⟨w.heap.size, 0, none⟩ = some (.string (str x.p)) ∧ w'.cell? ⟨w.heap.size, 1, none⟩ = some (.int .u64 x.d) ∧ w'.cell? ⟨w.heap.size, 2, none⟩ = some (.int .i64 x.r) ∧ w'.cell? ⟨w.heap.size, 3, none⟩ = some (.bool x.g))
      (first | go_keep | exact ⟨n0, n1, n2, n3⟩ | exact ⟨hK3.cell n0 (by simp), hK3.cell n1 (by simp), hK3.cell n2 (by simp), hK3.cell n3 (by simp)⟩ | exact ⟨hK4.cell n0 (by simp), hK4.cell n1 (by simp), hK4.cell n2 (by simp), hK4.cell n3 (by simp)⟩)
      (first
        | (go_at_call 66; refine (c1 _ ?_).mono ?_; exact hK2.drew; rintro e w' ⟨⟨q, rfl, hq⟩, rfl⟩)
        | (go_at_call 87; refine (c2 _ q ?_).mono ?_; exact hq; rintro e w3 ⟨q2, rfl, hq2, hK3⟩; replace hK2 : Kept [] w w3 := hK2.drew.trans hK3 (by simp); have hK4 := hK3.alloc (.cells #[.bool true, .pointer q2] 102)))
    all_goals go_wp2
    all_goals go_ret
    all_goals exact ⟨_, rfl, .inr ⟨w3.heap.size, q2, rfl, by simp, heap_alloc_new w3 _, (hq2.kept ((Kept.refl _ _).alloc _)).full⟩, hK2.alloc _⟩
  · have hb2 := hK0.cell hb (by simp)
    go_enter Tryz.func62, Tryz.ntmps62
    go_wp2_with fail
    refine (cC _).mono ?_
    rintro e w1 ⟨rfl, hK1⟩
    have q5 := hK1.at q4 (by simp)
    have f5 := frozen_in q5 0
    obtain ⟨m0, m1, m2, m3⟩ := cells4 q5
    obtain ⟨n0, n1, n2, n3⟩ := cells4 (cells4_set q5)
    have hK2 : Kept [] w (w1.setCell ⟨w.heap.size, 0, none⟩ (.string (str x.p))) := (hK0.trans hK1 (by simp)).setCell (.inr (Nat.le_refl _)) _
    clear b0 b1 b2 b3 q4
    go_wp2_with fail
    go_region_held3 (fun w' => w'.cell? ⟨w.heap.size, 0, none⟩ = some (.string (str x.p)) ∧ w'.cell? ⟨w.heap.size, 1, none⟩ = some (.int .u64 x.d) ∧ w'.cell? ⟨w.heap.size, 2, none⟩ = some (.int .i64 x.r) ∧ w'.cell? ⟨w.heap.size, 3, none⟩ = some (.bool x.g))
      (first | go_keep | exact ⟨n0, n1, n2, n3⟩ | exact ⟨hK3.cell n0 (by simp), hK3.cell n1 (by simp), hK3.cell n2 (by simp), hK3.cell n3 (by simp)⟩ | exact ⟨hK4.cell n0 (by simp), hK4.cell n1 (by simp), hK4.cell n2 (by simp), hK4.cell n3 (by simp)⟩)
      (first
        | (go_at_call 66; refine (c1 _ ?_).mono ?_; exact hK2.drew; rintro e w' ⟨⟨q, rfl, hq⟩, rfl⟩)
        | (go_at_call 87; refine (c2 _ q ?_).mono ?_; exact hq; rintro e w3 ⟨q2, rfl, hq2, hK3⟩; replace hK2 : Kept [] w w3 := hK2.drew.trans hK3 (by simp); have hK4 := hK3.alloc (.cells #[.bool true, .pointer q2] 102)))
    all_goals go_wp2
    all_goals go_ret
    all_goals exact ⟨_, rfl, .inr ⟨w3.heap.size, q2, rfl, by simp, heap_alloc_new w3 _, (hq2.kept ((Kept.refl _ _).alloc _)).full⟩, hK2.alloc _⟩

end Go.Proofs.YtfoghemiaidnhaaGreat
