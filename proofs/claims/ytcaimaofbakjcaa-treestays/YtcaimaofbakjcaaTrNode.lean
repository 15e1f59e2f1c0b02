/-
  Nodes in memory: what they hold; size, height, lean by their contracts.
-/
import Derived.Test.YtcaimaofbakjcaaPaStr
import Derived.Test.YtcaimaofbakjcaaTrPure
import Derived.Test.YtcaimaofbakjcaaProg
import Derived.Deep.QuietTactic
import Derived.BigQuiet
import Derived.Deep.RegionHeld3
namespace Go.Proofs.Ytcaimaofbakjcaa
open Go.RowKit

/-- A leaf as a value. -/
def lfV (x : Lf) : Value := .agg #[.string (str x.p), .int .u64 x.d, .int .i64 x.r, .bool x.g]

/-- The tree t stands at p, in blocks below B. -/
def NAt (B : Nat) (w : World) : Option Addr → Tr → Prop
  | p, .nil => p = none
  | p, .node l x r => ∃ (b : Nat) (pl pr : Option Addr), p = some ⟨b, 0, none⟩ ∧ b < B ∧
      w.heap[b]? = some (.cells #[.string (str x.p), .int .u64 x.d, .int .i64 x.r, .bool x.g, .pointer pl, .pointer pr, .int .i64 ((Tr.node l x r).size : Int), .int .i64 ((Tr.node l x r).height : Int)] 64 (0, 0)) ∧
      x.p.length ≤ 140737488355328 ∧ NAt B w pl l ∧ NAt B w pr r

theorem NAt.same {B : Nat} {a w : World} (h : ∀ k, k < B → k < a.heap.size → w.heap[k]? = a.heap[k]?) : ∀ {p : Option Addr} {t : Tr}, NAt B a p t → NAt B w p t
  | _, .nil, ht => ht
  | _, .node _ _ _, ⟨b, pl, pr, hp, hb, h0, h1, hl, hr⟩ => ⟨b, pl, pr, hp, hb, by rw [h b hb (lt_of_at h0), h0], h1, NAt.same h hl, NAt.same h hr⟩

theorem NAt.kept {B : Nat} {a w : World} (h : Kept [] a w) {p : Option Addr} {t : Tr} (ht : NAt B a p t) : NAt B w p t :=
  ht.same fun k _ hk => h.block k hk (by simp)

theorem NAt.below {B : Nat} {a w : World} (h : Below B a w) {p : Option Addr} {t : Tr} (ht : NAt B a p t) : NAt B w p t :=
  ht.same fun k hk _ => h.block k hk

theorem NAt.mono {B C : Nat} {w : World} (hB : B ≤ C) : ∀ {p : Option Addr} {t : Tr}, NAt B w p t → NAt C w p t
  | _, .nil, ht => ht
  | _, .node _ _ _, ⟨b, pl, pr, hp, hb, h0, h1, hl, hr⟩ => ⟨b, pl, pr, hp, by omega, h0, h1, NAt.mono hB hl, NAt.mono hB hr⟩

theorem NAt.full {B : Nat} {w : World} : ∀ {p : Option Addr} {t : Tr}, NAt B w p t → NAt w.heap.size w p t
  | _, .nil, ht => ht
  | _, .node _ _ _, ⟨b, pl, pr, hp, _, h0, h1, hl, hr⟩ => ⟨b, pl, pr, hp, lt_of_at h0, h0, h1, NAt.full hl, NAt.full hr⟩

/-- A cell of a block. -/
theorem cell_in {w : World} {b k : Nat} {vs : Array Value} {t : TypeId} {v : Value} (h : w.heap[b]? = some (.cells vs t (0, 0))) (hv : vs[k]? = some v) : w.cell? ⟨b, k, none⟩ = some v := by
  simp [World.cell?, h, hv]

theorem cells8 {w : World} {b : Nat} {v0 v1 v2 v3 v4 v5 v6 v7 : Value} {t : TypeId} (h : w.heap[b]? = some (.cells #[v0, v1, v2, v3, v4, v5, v6, v7] t (0, 0))) :
    w.cell? ⟨b, 0, none⟩ = some v0 ∧ w.cell? ⟨b, 1, none⟩ = some v1 ∧ w.cell? ⟨b, 2, none⟩ = some v2 ∧ w.cell? ⟨b, 3, none⟩ = some v3 ∧ w.cell? ⟨b, 4, none⟩ = some v4 ∧ w.cell? ⟨b, 5, none⟩ = some v5 ∧ w.cell? ⟨b, 6, none⟩ = some v6 ∧ w.cell? ⟨b, 7, none⟩ = some v7 :=
  ⟨cell_in h rfl, cell_in h rfl, cell_in h rfl, cell_in h rfl, cell_in h rfl, cell_in h rfl, cell_in h rfl, cell_in h rfl⟩

theorem cells4 {w : World} {b : Nat} {v0 v1 v2 v3 : Value} {t : TypeId} (h : w.heap[b]? = some (.cells #[v0, v1, v2, v3] t (0, 0))) :
    w.cell? ⟨b, 0, none⟩ = some v0 ∧ w.cell? ⟨b, 1, none⟩ = some v1 ∧ w.cell? ⟨b, 2, none⟩ = some v2 ∧ w.cell? ⟨b, 3, none⟩ = some v3 :=
  ⟨cell_in h rfl, cell_in h rfl, cell_in h rfl, cell_in h rfl⟩

set_option maxHeartbeats 1000000 in
theorem size_call (B : Nat) (w : World) (p : Option Addr) (t : Tr) (h : NAt B w p t) :
    Calls Try.prog 31 #[.pointer p] w fun e w' => e = .returned (.int .i64 (t.size : Int)) ∧ w' = w := by
  cases t with
  | nil =>
    obtain rfl : p = none := h
    go_enter Try.func31, Try.ntmps31
    go_wp2
    go_ret
    exact ⟨rfl, rfl⟩
  | node l x r =>
    obtain ⟨b, pl, pr, rfl, hb, h0, h1, hl, hr⟩ := h
    have c6 := cell_in (k := 6) h0 rfl
    clear h0
    generalize ((Tr.node l x r).size : Int) = n at *
    go_enter Try.func31, Try.ntmps31
    go_wp2
    go_ret
    exact ⟨rfl, rfl⟩

set_option maxHeartbeats 1000000 in
theorem height_call (B : Nat) (w : World) (p : Option Addr) (t : Tr) (h : NAt B w p t) :
    Calls Try.prog 32 #[.pointer p] w fun e w' => e = .returned (.int .i64 (t.height : Int)) ∧ w' = w := by
  cases t with
  | nil =>
    obtain rfl : p = none := h
    go_enter Try.func32, Try.ntmps32
    go_wp2
    go_ret
    exact ⟨rfl, rfl⟩
  | node l x r =>
    obtain ⟨b, pl, pr, rfl, hb, h0, h1, hl, hr⟩ := h
    have c7 := cell_in (k := 7) h0 rfl
    clear h0
    generalize ((Tr.node l x r).height : Int) = n at *
    go_enter Try.func32, Try.ntmps32
    go_wp2
    go_ret
    exact ⟨rfl, rfl⟩

theorem quiet_n {P : Program} {f : FuncId} {args : Array Value} {w : World} {n : Nat} {v : Value}
    (h : Calls P f args (w.drewN n) fun e w' => e = .returned v ∧ w' = w.drewN n) : Calls P f args (w.drewN n) fun e w'' => e = .returned v ∧ ∃ m, w'' = w.drewN m :=
  h.mono fun _ _ ⟨he, hm⟩ => ⟨he, n, hm⟩

theorem NAt.drewN {B : Nat} {w : World} {p : Option Addr} {t : Tr} (h : NAt B w p t) (n : Nat) : NAt B (w.drewN n) p t := NAt.same (a := w) (w := w.drewN n) (fun _ _ _ => rfl) h

set_option maxHeartbeats 1000000 in
theorem lean_call (B : Nat) (w : World) (p : Option Addr) (l r : Tr) (x : Lf) (h : NAt B w p (.node l x r)) (hs : (Tr.node l x r).size ≤ 1000000000000) :
    Calls Try.prog 54 #[.pointer p] w fun e w' => e = .returned (.int .i64 ((Tr.node l x r).lean)) ∧ ∃ n, w' = w.drewN n := by
  obtain ⟨b, pl, pr, rfl, hb, h0, h1, hl, hr⟩ := h
  have c4 := cell_in (k := 4) h0 rfl
  have c5 := cell_in (k := 5) h0 rfl
  have hh1 := tr_height l
  have hh2 := tr_height r
  simp only [Tr.size] at hs
  have hLn : (Tr.node l x r).lean = (r.height : Int) - l.height := rfl
  rw [hLn]
  have cl := fun n => height_call B _ pl l (hl.drewN n)
  have cr := fun n => height_call B _ pr r (hr.drewN n)
  have b1 : (l.height : Int) ≤ 1000000000000 := by omega
  have b2 : (r.height : Int) ≤ 1000000000000 := by omega
  have b3 : (0 : Int) ≤ l.height := by omega
  have b4 : (0 : Int) ≤ r.height := by omega
  clear h0 hl hr hLn hs hh1 hh2
  generalize (l.height : Int) = hl at *
  generalize (r.height : Int) = hr at *
  go_enter Try.func54, Try.ntmps54
  go_wp2_with fail
  go_quiet (first | (go_at_call_of 32 pr; exact quiet_n (cr _)) | (go_at_call_of 32 pl; exact quiet_n (cl _)))
  go_wp2
  go_ret
  exact ⟨rfl, _, rfl⟩

end Go.Proofs.Ytcaimaofbakjcaa
