/-
  What a machine told stays as it is while the machine goes on.
-/
import Derived.Test.YthhlfehdnefgoabGreatMaLoop
namespace Go.Proofs.YthhlfehdnefgoabGreat
open Go.RowKit

/-- What stays: verdicts' commits in blocks from a to z, and all that is of other types. -/
structure Tk (a z : Nat) (w w' : World) : Prop where
  ko : ∀ (B : Nat) (u : Value) (k : List Com), KoO B w u k → (∀ j, u.ownBlock = some j → a ≤ j ∧ j < z) → KoO B w' u k
  row : ∀ (B e size n : Nat) (v : Value) (xs : List Value), w.ownsRow B e size v n xs → e ∉ [65, 96, 69, 90, 86, 84] → w'.ownsRow B e size v n xs
  at_ : ∀ (k : Nat) (cur : Array Value) (t : TypeId) (mk : Nat × Nat), w.heap[k]? = some (.cells cur t mk) → t ∉ [65, 96, 69, 90, 86, 84] → w'.heap[k]? = some (.cells cur t mk)
  size : w.heap.size ≤ w'.heap.size

theorem Tk.kept {a z : Nat} {w w' : World} (k : Kept [] w w') : Tk a z w w' :=
  ⟨fun _ _ _ h _ => h.kept k, fun _ _ _ _ _ _ h _ => k.ownsRow h (by simp), fun _ _ _ _ h _ => k.at h (by simp), k.size⟩

theorem Tk.trans {a z : Nat} {w w' w'' : World} (h : Tk a z w w') (k : Tk a z w' w'') : Tk a z w w'' :=
  ⟨fun B u c hk hj => k.ko B u c (h.ko B u c hk hj) hj, fun B e s n v xs hr ht => k.row B e s n v xs (h.row B e s n v xs hr ht) ht, fun q c t mk hh ht => k.at_ q c t mk (h.at_ q c t mk hh ht) ht, Nat.le_trans h.size k.size⟩

theorem Tk.fr {a z B : Nat} {F : List Nat} {w w' : World} (h : FrP B F w w') (hF : ∀ k ∈ F, k < a ∨ z ≤ k) : Tk a z w w' :=
  ⟨fun B u k hk hj => hk.frU h fun j hv hm => by have h1 := hj j hv; have h2 := hF j hm; omega, fun _ _ _ _ _ _ hr ht => h.row hr ht, fun _ _ _ _ hh ht => h.at hh ht, h.size⟩

/-- A machine whose own blocks are below a, or from z on. -/
def LvA (w0 : World) (a z : Nat) (w : World) (b : Nat) (p : Pl) (m : Ma) : Prop := ∃ F, LiveM w0 w F [] b p 2 3 m ∧ ∀ k ∈ F, k < a ∨ z ≤ k

theorem LvA.lv {w0 w : World} {a z b : Nat} {p : Pl} {m : Ma} (h : LvA w0 a z w b p m) : Lv w0 w b p m := by
  obtain ⟨F, h1, _⟩ := h; exact ⟨F, h1⟩

theorem LvA.kept {w0 w w' : World} {a z b : Nat} {p : Pl} {m : Ma} (h : LvA w0 a z w b p m) (k : Kept [] w w') : LvA w0 a z w' b p m := by
  obtain ⟨F, h1, h2⟩ := h; exact ⟨F, h1.kept k, h2⟩

theorem Lv.apart {w0 w w' : World} {b : Nat} {p : Pl} {m : Ma} (h : Lv w0 w b p m) (k : Kept [] w w') (z : Nat) : LvA w0 w.heap.size z w' b p m := by
  obtain ⟨F, h1⟩ := h
  exact ⟨F, h1.kept k, fun i hi => .inl (h1.lt i hi)⟩

theorem lvA_apply {w0 w : World} {a z b : Nat} {p : Pl} {m : Ma} {n : Nat} (h : LvA w0 a z w b p m) (hz : z ≤ w.heap.size) (hf : ApF n m) (hn : n ≤ 990) (x : Rm) (hx : RqOk w x) :
    Calls Tryz.prog 9 #[.pointer (some ⟨b, 0, none⟩), .agg #[.int .i64 x.r.k, .string (str x.r.n), .int .i64 x.r.s, .int .i64 x.r.q, .int .i64 x.r.b, .string (str x.r.f), .slice x.mo x.m x.mc, .string (str x.r.p), .int .i64 x.r.fr, .int .i64 x.r.mn, .int .i64 x.r.mb]] w fun e w' =>
      ∃ ao nn c, e = .returned (.agg #[.int .i64 (apV 2 m x.r).c, .int .i64 (apV 2 m x.r).s, .int .i64 (apV 2 m x.r).r, .string (str (apV 2 m x.r).p), .int .u64 (apV 2 m x.r).d, .slice ao nn c, .int .i64 (apV 2 m x.r).m]) ∧ Hid (KoO w.heap.size w' (.slice ao nn c) (apV 2 m x.r).k) ∧ Hid (LvA w0 a z w' b p (apM 2 3 m x.r)) ∧ Hid (Tk a z w w') := by
  obtain ⟨F, h1, h0⟩ := h
  have h2 := hf.g
  have h3 := hf.e
  refine (apply_call h1 (by omega) (by omega) x hx).mono fun e w' ⟨ao, nn, c, he, hO, F', k1, k2, k3, k4⟩ => ⟨ao, nn, c, he, hO, ⟨F', k1, fun k hk => ?_⟩, Tk.fr k2 h0⟩
  rcases k3 k hk with e | e
  · exact h0 k e
  · exact .inr (Nat.le_trans hz e)

theorem lvA_peek {w0 w : World} {a z b : Nat} {p : Pl} {m : Ma} {n : Nat} (h : LvA w0 a z w b p m) (hz : z ≤ w.heap.size) (hf : ApF n m) (hn : n ≤ 990) (x : Rm) (hx : RqOk w x) :
    Calls Tryz.prog 11 #[.pointer (some ⟨b, 0, none⟩), .agg #[.int .i64 x.r.k, .string (str x.r.n), .int .i64 x.r.s, .int .i64 x.r.q, .int .i64 x.r.b, .string (str x.r.f), .slice x.mo x.m x.mc, .string (str x.r.p), .int .i64 x.r.fr, .int .i64 x.r.mn, .int .i64 x.r.mb]] w fun e w' =>
      ∃ ao nn c, e = .returned (.agg #[.int .i64 (peekT m.g x.r).c, .int .i64 (peekT m.g x.r).s, .int .i64 (peekT m.g x.r).r, .string (str (peekT m.g x.r).p), .int .u64 (peekT m.g x.r).d, .slice ao nn c, .int .i64 (peekT m.g x.r).m]) ∧ Hid (KoO w.heap.size w' (.slice ao nn c) (peekT m.g x.r).k) ∧ Hid (LvA w0 a z w' b p m) ∧ Hid (Tk a z w w') := by
  obtain ⟨F, h1, h0⟩ := h
  have h2 := hf.g
  have h3 := hf.a
  have cP := peek_call h1 (by omega) x hx
  rw [if_neg (by omega)] at cP
  refine cP.mono fun e w' ⟨ao, nn, c, he, hO, F', k1, k2, k3, k4⟩ => ⟨ao, nn, c, he, hO, ⟨F', k1, fun k hk => ?_⟩, Tk.fr k2 h0⟩
  rcases k3 k hk with e | e
  · exact h0 k e
  · exact .inr (Nat.le_trans hz e)

/-- Sessions that were told. -/
def TdS (a : Nat) (w : World) (v : Value) (X : List (Se × Value)) : Prop := RowS a w v X ∧ ∀ x ∈ X, KoO a w x.2 x.1.v.k

theorem TdS.sl {a : Nat} {w : World} {v : Value} {X : List (Se × Value)} (h : TdS a w v X) : ∃ ao c, v = .slice ao X.length c ∧ SlS w ao X.length c X := h.1.t.sl fun x hx => (h.2 x hx).ko

theorem TdS.kept {a : Nat} {w w' : World} {v : Value} {X : List (Se × Value)} (h : TdS a w v X) (k : Kept [] w w') : TdS a w' v X := ⟨k.ownsRow h.1 (by simp), fun x hx => (h.2 x hx).kept k⟩

theorem ko_lt {B : Nat} {w : World} {u : Value} {k : List Com} (h : KoO B w u k) {j : Nat} (hj : u.ownBlock = some j) : B ≤ j ∧ j < w.heap.size := ⟨(ko_ge h hj).1, by obtain ⟨_, cur, hh⟩ := ko_ge h hj; exact lt_of_at hh⟩

theorem TdS.tk {a : Nat} {w w' : World} {v : Value} {X : List (Se × Value)} (h : TdS a w v X) (k : Tk a w.heap.size w w') : TdS a w' v X :=
  ⟨k.row _ _ _ _ _ _ h.1 (by decide), fun x hx => k.ko _ _ _ (h.2 x hx) fun _ hj => ko_lt (h.2 x hx) hj⟩

theorem ko_tk {a : Nat} {w w' : World} {u : Value} {c : List Com} (h : KoO a w u c) (k : Tk a w.heap.size w w') : KoO a w' u c := k.ko _ _ _ h fun _ hj => ko_lt h hj

end Go.Proofs.YthhlfehdnefgoabGreat
