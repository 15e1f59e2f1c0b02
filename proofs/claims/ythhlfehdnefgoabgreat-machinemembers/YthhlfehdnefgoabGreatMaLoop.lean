/-
  Requests that are applied one behind the other.
-/
import Derived.Test.YthhlfehdnefgoabGreatQ19
import Derived.Test.YthhlfehdnefgoabGreatMaRoom
namespace Go.Proofs.YthhlfehdnefgoabGreat
open Go.RowKit

/-- All of these requests, upon a machine. -/
noncomputable def apAll (m : Ma) (D : List Rm) : Ma := D.foldl (fun m x => apM 2 3 m x.r) m

theorem apAll_take {m : Ma} {D : List Rm} {i : Nat} (h : i < D.length) : apAll m (D.take (i + 1)) = apM 2 3 (apAll m (D.take i)) D[i].r := by
  unfold apAll
  rw [List.take_succ_eq_append_getElem h, List.foldl_append]; rfl

/-- What is so of a machine to which n were applied. -/
structure ApF (n : Nat) (m : Ma) : Prop where
  ok : MaOk 3 m
  a : m.a = n
  g : m.g.cs.length ≤ n
  e : m.e.length ≤ n + 1
  l : LastOk m

theorem apF_new : ApF 0 (newM [0, 1, 2]) := ⟨maOk_new may3 3, rfl, Nat.le_refl _, Nat.le_refl _, fun x hx => by simp [newM] at hx⟩

theorem ApF.step {n : Nat} {m : Ma} (h : ApF n m) (hn : n < 1000) (r : Rq) : ApF (n + 1) (apM 2 3 m r) := by
  have ha := h.a
  have hlt : m.a < 1099511627776 := by omega
  have h1 := (ap_head (al := 2) (sz := 3) (m := m) r).1
  have h2 := ap_el (al := 2) (sz := 3) (m := m) r
  have h3 := h.g
  have h4 := h.e
  exact ⟨maOk_ap (by omega) (by omega) h.ok r, by rw [ap_a hlt, ha]; simp, by omega, by omega, (landed h.l r hlt).2.2⟩

theorem apF_all {m : Ma} {n : Nat} (h : ApF n m) : ∀ (D : List Rm), n + D.length ≤ 1000 → ApF (n + D.length) (apAll m D)
  | [], _ => h
  | x :: D, hn => by
    have h1 := apF_all (h.step (by simp at hn; omega) x.r) D (by simp at hn; omega)
    rw [show n + (x :: D).length = n + 1 + D.length by simp; omega]
    exact h1

theorem apF_take {m : Ma} {n : Nat} (h : ApF n m) {D : List Rm} {i : Nat} (hi : i ≤ D.length) (hn : n + D.length ≤ 1000) : ApF (n + i) (apAll m (D.take i)) := by
  have h1 := apF_all h (D.take i) (by simp; omega)
  rw [List.length_take, Nat.min_eq_left hi] at h1
  exact h1

/-- A machine of the laws, made behind w0. -/
def Lv (w0 w : World) (b : Nat) (p : Pl) (m : Ma) : Prop := ∃ F, LiveM w0 w F [] b p 2 3 m

/-- What turned is some machine's. -/
def Of (w w' : World) : Prop := ∃ B F, FrP B F w w'

theorem Lv.kept {w0 w w' : World} {b : Nat} {p : Pl} {m : Ma} (h : Lv w0 w b p m) (k : Kept [] w w') : Lv w0 w' b p m := by
  obtain ⟨F, h1⟩ := h; exact ⟨F, h1.kept k⟩
theorem Lv.keeps {w0 w : World} {b : Nat} {p : Pl} {m : Ma} (h : Lv w0 w b p m) : Kept [] w0 w := by
  obtain ⟨F, h1⟩ := h; exact h1.keeps
theorem Of.at {w w' : World} (h : Of w w') {k : Nat} {cur : Array Value} {t : TypeId} {mk : Nat × Nat} (hk : w.heap[k]? = some (.cells cur t mk)) (ht : t ∉ [65, 96, 69, 90, 86, 84]) : w'.heap[k]? = some (.cells cur t mk) := by
  obtain ⟨B, F, h1⟩ := h; exact h1.at hk ht
theorem Of.row {w w' : World} (h : Of w w') {B' e size n : Nat} {v : Value} {xs : List Value} (hr : w.ownsRow B' e size v n xs) (ht : e ∉ [65, 96, 69, 90, 86, 84]) : w'.ownsRow B' e size v n xs := by
  obtain ⟨B, F, h1⟩ := h; exact h1.row hr ht
theorem Of.kept {w w' : World} (h : Kept [] w w') : Of w w' := ⟨0, [], FrP.kept h⟩
theorem Of.vd {w w' : World} (h : Of w w') {b : Nat} {v : Vt} {u : Value} (hb : VdB w b v u) : VdB w' b v u := h.at hb (by decide)
theorem Of.rq {w w' : World} (h : Of w w') {b : Nat} {x : Rm} (hb : RqB w b x) : RqB w' b x := h.at hb (by decide)

theorem lv_fresh (w : World) : Calls Tryz.prog 8 #[] w fun e w' => ∃ (b : Nat) (p : Pl), e = .returned (.pointer (some ⟨b, 0, none⟩)) ∧ Lv w w' b p (newM [0, 1, 2]) :=
  (fresh_call w [] (fun k hk => by cases hk)).mono fun _ _ ⟨b, p, F, h1, h2⟩ => ⟨b, p, h1, F, h2⟩

/-- One is applied. -/
theorem lv_apply {w0 w : World} {b : Nat} {p : Pl} {m : Ma} {n : Nat} (h : Lv w0 w b p m) (hf : ApF n m) (hn : n ≤ 990) (x : Rm) (hx : RqOk w x) :
    Calls Tryz.prog 9 #[.pointer (some ⟨b, 0, none⟩), .agg #[.int .i64 x.r.k, .string (str x.r.n), .int .i64 x.r.s, .int .i64 x.r.q, .int .i64 x.r.b, .string (str x.r.f), .slice x.mo x.m x.mc, .string (str x.r.p), .int .i64 x.r.fr, .int .i64 x.r.mn, .int .i64 x.r.mb]] w fun e w' =>
      ∃ ao nn c, e = .returned (.agg #[.int .i64 (apV 2 m x.r).c, .int .i64 (apV 2 m x.r).s, .int .i64 (apV 2 m x.r).r, .string (str (apV 2 m x.r).p), .int .u64 (apV 2 m x.r).d, .slice ao nn c, .int .i64 (apV 2 m x.r).m]) ∧ Hid (KoO w.heap.size w' (.slice ao nn c) (apV 2 m x.r).k) ∧ Hid (Lv w0 w' b p (apM 2 3 m x.r)) ∧ Hid (Of w w') := by
  obtain ⟨F, h1⟩ := h
  have h2 := hf.g
  have h3 := hf.e
  exact (apply_call h1 (by omega) (by omega) x hx).mono fun e w' ⟨ao, nn, c, he, hO, F', k1, k2, k3, k4⟩ => ⟨ao, nn, c, he, hO, ⟨F', k1⟩, ⟨_, _, k2⟩⟩

/-- What was told stays, where it is not the machine's own. -/
theorem KoO.frU {B B' : Nat} {F : List Nat} {w w' : World} {u : Value} {k : List Com} (h : KoO B w u k) (fr : FrP B' F w w') (hj : ∀ j, u.ownBlock = some j → j ∉ F) : KoO B w' u k := by
  obtain ⟨K, hr, ho, he⟩ := h
  refine ⟨K, ?_, fun x hx => fr.row (ho x hx) (by decide), he⟩
  obtain ⟨U, h1, h2, h3⟩ := fr
  refine h1.ownsRow hr fun j hv hm => ?_
  obtain ⟨cur, hh⟩ := row_block hr hv
  rcases h3 j hm (lt_of_at hh) with h4 | ⟨_, cur', t, mk, hh', h5⟩
  · exact hj j hv h4
  · rw [hh] at hh'
    cases hh'
    rcases h5 with h5 | h5 <;> simp at h5

/-- The loop that applies them all. -/
def LmI (w0 : World) (b : Nat) (p : Pl) (m : Ma) (D : List Rm) (iv : Value) (wr : World) : Prop := ∃ i : Nat, iv = .int .i64 (i : Int) ∧ i ≤ D.length ∧ Hid (Lv w0 wr b p (apAll m (D.take i)))

/-- One request more, alone. -/
theorem SlR.lit (w : World) (x : Rm) (h : RqIn w x) : SlR (w.alloc (.cells (rqC x).toArray 34)) (some ⟨w.heap.size, 0, none⟩) 1 1 [x] := by
  have hk : Kept [] w (w.alloc (.cells (rqC x).toArray 34)) := (Kept.refl _ _).alloc _
  refine ⟨rfl, Nat.le_refl _, by unfold maxLen; omega, fun i hi => ?_, fun y hy => by simp at hy; subst hy; exact h.kept hk⟩
  obtain rfl : i = 0 := by simpa using hi
  refine ⟨w.heap.size, 0, rfl, RqAt.of fun j hj => ?_⟩
  have hj2 : j < (rqC x).length := hj
  obtain ⟨u, hu⟩ : ∃ u, (rqC x)[j]? = some u := ⟨_, List.getElem?_eq_getElem hj2⟩
  show World.cell? _ ⟨w.heap.size, 0 + 0 * 11 + j, none⟩ = ([x][0] |> rqC)[j]?
  rw [show 0 + 0 * 11 + j = j by omega, cell_inC (k := j) (heap_alloc_new w _) (by simpa using hu)]
  exact hu.symm

theorem roomR_one {x : Rm} : roomR 1 [x] = true → SmR x.r := fun h => (roomR_true.1 h).2 x (by simp)

end Go.Proofs.YthhlfehdnefgoabGreat
