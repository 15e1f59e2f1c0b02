/-
  GraphReads: what the walk rests on.
-/
import Derived.Test.YtfoghemiaidnhabGreatGrReA
import Derived.Test.YtfoghemiaidnhabGreatGrLoop
import Derived.Test.YtfoghemiaidnhabGreatGrSame
import Derived.Laws.BitsLemmas
namespace Go.Proofs.YtfoghemiaidnhabGreat
open Go.RowKit

theorem live_readR {w0 w : World} {b : Nat} {G : Gr} (h : Live w0 w b G) (q : List UInt8) (hq : q.length ≤ 1000000000) :
    Calls Tryz.prog 9 #[.pointer (some ⟨b, 0, none⟩), .string (str q)] w fun e w' => e = .returned (vdV (readV G q)) ∧ Kept [] w w' := by
  obtain ⟨S, ⟨v, p, t, mb, K, hG, rfl⟩, h2, h3⟩ := h
  exact read_call hG q hq

theorem live_refsR {w0 w : World} {b : Nat} {G : Gr} (h : Live w0 w b G) (hW : Wf G) (hl : G.cs.length ≤ 10000) :
    Calls Tryz.prog 11 #[.pointer (some ⟨b, 0, none⟩)] w fun e w' => ∃ v', e = .returned v' ∧ OwnR w.heap.size w' v' G.rs ∧ Kept [] w w' := by
  obtain ⟨S, ⟨v, p, t, mb, K, hG, rfl⟩, h2, h3⟩ := h
  exact refs_call hG hW.srs (by have := hW.refs; omega) (fun x hx => by have := (hW.name x hx).2; omega)

theorem live_logR {w0 w : World} {b : Nat} {G : Gr} (h : Live w0 w b G) (hW : Wf G) (hl : G.cs.length ≤ 10000) (f m : Int) (hf : 1 ≤ f) (hm : 1 ≤ m) (hf2 : f < 2 ^ 63) (hm2 : m < 2 ^ 63) :
    Calls Tryz.prog 12 #[.pointer (some ⟨b, 0, none⟩), .int .i64 f, .int .i64 m] w fun e w' => ∃ v' K', e = .returned (logV v') ∧ K'.map Prod.fst = logL G.cs f m ∧ RowK w.heap.size w' v' K' ∧ OwnK w.heap.size w' K' ∧ Kept [] w w' := by
  obtain ⟨S, ⟨v, p, t, mb, K, hG, rfl⟩, h2, h3⟩ := h
  exact log_ok hG hW hl f m hf hm hf2 hm2

/-- A commit of a slice, and its changes. -/
theorem SlK.at {w : World} {ao : Option Addr} {n c : Nat} {K : List (Com × Value)} (h : SlK w ao n c K) {i : Nat} (hi : i < K.length) :
    ∃ b o mo m mc, ao = Option.some ⟨b, o, none⟩ ∧ w.cell? ⟨b, o + i * 4, none⟩ = Option.some (.int .i64 K[i].1.r) ∧ w.cell? ⟨b, o + i * 4 + 1, none⟩ = Option.some (.int .i64 K[i].1.b) ∧ w.cell? ⟨b, o + i * 4 + 2, none⟩ = Option.some (.string (str K[i].1.n)) ∧
      w.cell? ⟨b, o + i * 4 + 3, none⟩ = Option.some (.slice mo m mc) ∧ SlC w mo m mc K[i].1.c := by
  obtain ⟨b, o, e, h1⟩ := h.2.2.2.1 i hi
  obtain ⟨mo, m, mc, e2, h2, _⟩ := h.2.2.2.2 _ (List.getElem_mem hi)
  exact ⟨b, o, mo, m, mc, e, h1.c0, h1.c1, h1.c2, by rw [← e2]; exact h1.c3, h2⟩

theorem and7 (x : Int) : 0 ≤ bits .and .i64 x 7 ∧ bits .and .i64 x 7 ≤ 7 := by
  simp only [bits, BitVec.toNat_and]
  have h1 : ∀ a : Nat, a &&& (BitVec.ofInt IntKind.i64.bits 7).toNat ≤ 7 := fun a => Nat.and_le_right
  have h2 := h1 (BitVec.ofInt IntKind.i64.bits x).toNat
  generalize (BitVec.ofInt IntKind.i64.bits x).toNat &&& (BitVec.ofInt IntKind.i64.bits 7).toNat = n at *
  rw [IntKind.wrap_i64]
  omega

theorem less_lt : ∀ {a b : List UInt8}, a < b → Op.bytesLess a b = true
  | [], [], h => absurd h (List.lt_irrefl _)
  | [], _ :: _, _ => by simp [Op.bytesLess]
  | _ :: _, [], h => by simp at h
  | x :: a, y :: b, h => by
    rw [List.cons_lt_cons_iff] at h
    rcases h with h | ⟨rfl, h⟩
    · simp [Op.bytesLess, h]
    · simp [Op.bytesLess, less_lt h]

theorem less_strR {a b : List UInt8} (h : a < b) : Op.bytesLess (str a).toList (str b).toList = true := by rw [str_toList, str_toList, less_lt h]

theorem cell_ltR {w : World} {b o : Nat} {v : Value} (h : w.cell? ⟨b, o, none⟩ = some v) : b < w.heap.size := by
  unfold World.cell? at h
  by_cases hlt : b < w.heap.size
  · exact hlt
  · rw [show w.heap[(⟨b, o, none⟩ : Addr).block]? = none from Array.getElem?_eq_none (by show w.heap.size ≤ b; omega)] at h; simp at h

/-- Where the verdict that is wanted lies, and what it is. -/
def WanR (wA : World) (v : Vd) (wr : World) : Prop := Kept [] wA wr ∧ wr.heap[wA.heap.size]? = some (.cells (vdA v (.slice none 0 0)) 30 (0, 0))

theorem drewR_at {w : World} {k : Nat} {o : Option Obj} (h : w.heap[k]? = o) : w.drew.heap[k]? = o := h

theorem WanR.alloc {wA w : World} {v : Vd} (h : WanR wA v w) (ob : Obj) : WanR wA v (w.alloc ob) := by
  obtain ⟨h1, h2⟩ := h
  refine ⟨h1.alloc ob, ?_⟩
  have hlt : wA.heap.size < w.heap.size := by
    by_cases hl : wA.heap.size < w.heap.size
    · exact hl
    · rw [Array.getElem?_eq_none (by omega)] at h2; cases h2
  exact ((Kept.refl [] w).alloc ob).at h2 (by simp)

theorem wanR_set {wA w : World} {v0 : Vd} (h : WanR wA v0 w) (v : Vd) : WanR wA v (set7w w wA.heap.size (.int .i64 v.c) (.int .i64 0) (.int .i64 v.r) (.string (str v.p)) (.int .u64 v.d) (.slice none 0 0) (.int .i64 0)) := by
  obtain ⟨h1, h2⟩ := h
  unfold vdA at h2
  exact ⟨set7_kept h1 (.inr (Nat.le_refl _)) _ _ _ _ _ _ _, set7 h2 _ _ _ _ _ _ _⟩

theorem wanR_drew {wA w : World} {v : Vd} (h : WanR wA v w) : WanR wA v w.drew := ⟨h.1.drew, drewR_at h.2⟩

theorem set7_off {w : World} {b g o : Nat} {v u0 u1 u2 u3 u4 u5 u6 : Value} (hne : g ≠ b) (h : w.cell? ⟨g, o, none⟩ = some v) : (set7w w b u0 u1 u2 u3 u4 u5 u6).drew.cell? ⟨g, o, none⟩ = some v :=
  (set7_kept (Kept.refl [b] w) (.inl (by simp)) u0 u1 u2 u3 u4 u5 u6).drew.cell h (by simpa using hne)

theorem WanR.lt {wA w : World} {v : Vd} (h : WanR wA v w) : wA.heap.size < w.heap.size := by
  by_cases hl : wA.heap.size < w.heap.size
  · exact hl
  · have h2 := h.2; rw [Array.getElem?_eq_none (by omega)] at h2; cases h2

theorem log_ne {cs : List Com} {a : Nat} {m : Int} (ha : a < cs.length) (hm : 1 ≤ m) : 0 < (logL cs ((a : Int) + 1) m).length := by
  unfold logL
  rw [List.length_take, List.length_drop]
  omega

theorem own_grow {w w' : World} {B : Nat} {v : Value} {K M : List (Com × Value)} (hR : RowK B w v K) (hg : w.grownBy w' v.ownBlock) {B2 : Nat} (h : OwnK B2 w M) : OwnK B2 w' M := fun x hx => row_other hR hg (h x hx) (by decide)

def ReK (wA : World) (cs : List Com) (p : List UInt8) (kv : Value) (wr : World) : Prop :=
  ∃ k : Nat, kv = .int .i64 (k : Int) ∧ k ≤ cs.length ∧ Hid (WanR wA (wantV p (lastC p (cs.take k))) wr)

def ReJ (wA : World) (r : Int) (l : List Ch) (p : List UInt8) (o : Option Lf) (jv : Value) (wr : World) : Prop :=
  ∃ j : Nat, jv = .int .i64 (j : Int) ∧ j ≤ l.length ∧ Hid (WanR wA (wantV p (lastIn p r o (l.take j))) wr)

def ReI (wA : World) (n : Nat) (iv : Value) (wr : World) : Prop := ∃ i : Nat, iv = .int .i64 (i : Int) ∧ i ≤ n ∧ Hid (Kept [] wA wr)

def ReL (wA : World) (n : List UInt8) (cs : List Com) (lv kv : Value) (wr : World) : Prop := ∃ k : Nat, lv = .int .i64 (refL n (cs.take k)) ∧ kv = .int .i64 (k : Int) ∧ k ≤ cs.length ∧ Hid (Kept [] wA wr)

def ReA (wA : World) (cs : List Com) (av tv : Value) (wr : World) : Prop :=
  ∃ (a : Nat) (K : List (Com × Value)), tv = .int .i64 ((a : Int) + 1) ∧ a ≤ 1000 ∧ Hid (K.map Prod.fst = cs.take a) ∧ Hid (RowK wA.heap.size wr av K) ∧ Hid (OwnK wA.heap.size wr K) ∧ Hid (Kept [] wA wr)

end Go.Proofs.YtfoghemiaidnhabGreat
