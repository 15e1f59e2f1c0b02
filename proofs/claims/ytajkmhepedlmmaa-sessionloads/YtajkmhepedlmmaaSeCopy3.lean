/-
  A copy of each of a list of sessions.
-/
import Derived.Test.YtajkmhepedlmmaaSeCopy2
namespace Go.Proofs.Ytajkmhepedlmmaa
open Go.RowKit

/-- What copies of sessions come to. -/
def CopS (w : World) (L : List Se) (e : Ending) (w' : World) : Prop := ∃ v X, e = .returned v ∧ RowS w.heap.size w' v X ∧ (∀ x ∈ X, KoO w.heap.size w' x.2 x.1.v.k) ∧ X.map Prod.fst = L ∧ Kept [] w w'

def CsI (w : World) (L : List Se) (ov iv : Value) (wr : World) : Prop :=
  ∃ (j : Nat) (X' : List (Se × Value)), iv = .int .i64 (j : Int) ∧ j ≤ L.length ∧ Hid (X'.map Prod.fst = L.take j) ∧ Hid (RowS w.heap.size wr ov X') ∧ Hid (∀ x ∈ X', KoO w.heap.size wr x.2 x.1.v.k) ∧ Hid (Kept [] w wr)

theorem ko_other {w w' : World} {B e size n C : Nat} {v u : Value} {xs : List Value} {k : List Com} (h : w.ownsRow B e size v n xs) (hg : w.grownBy w' v.ownBlock) (h2 : KoO C w u k) (h1 : 65 ≠ e) (h3 : 89 ≠ e) : KoO C w' u k := by
  have hK : Kept v.ownBlock.toList w w' := (Kept.refl _ w).grown hg fun k hk => .inl (mem_own.2 hk)
  refine h2.keep hK (Ts := [e]) (fun k hk cur t mk hh => ?_) (by simpa using h1) (by simpa using h3)
  obtain ⟨c2, h3⟩ := row_block h (mem_own.1 hk)
  rw [h3] at hh; cases hh; simp

/-- One session more. -/
theorem cs_next {w wr w5 w6 : World} {L : List Se} {j : Nat} {X' : List (Se × Value)} {ov v5 v6 : Value} {x : Se} (hx : L[j]? = some x) (hM : X'.map Prod.fst = L.take j) (hR : RowS w.heap.size wr ov X') (hO : ∀ x ∈ X', KoO w.heap.size wr x.2 x.1.v.k) (hK : Kept [] w wr)
    (hK5 : Kept [] wr w5) (hO5 : KoO wr.heap.size w5 v5 x.v.k) (h1 : RowS w.heap.size w6 v6 (X' ++ [(x, v5)])) (h2 : (w5.alloc (.cells #[.int .i64 x.i, .int .i64 x.q, .string (str x.n), .int .i64 x.v.c, .int .i64 x.v.s, .int .i64 x.v.r, .string (str x.v.p), .int .u64 x.v.d, v5, .int .i64 x.v.m] 44)).grownBy w6 ov.ownBlock) :
    CsI w L v6 (.int .i64 ((j + 1 : Nat) : Int)) w6 := by
  obtain ⟨hj, hx⟩ := List.getElem?_eq_some_iff.1 hx
  have hRa : RowS w.heap.size (w5.alloc (.cells #[.int .i64 x.i, .int .i64 x.q, .string (str x.n), .int .i64 x.v.c, .int .i64 x.v.s, .int .i64 x.v.r, .string (str x.v.p), .int .u64 x.v.d, v5, .int .i64 x.v.m] 44)) ov X' := World.ownsRow.alloc (hK5.ownsRow hR (by simp)) _
  have hKa := (Kept.refl [] w5).alloc (.cells #[.int .i64 x.i, .int .i64 x.q, .string (str x.n), .int .i64 x.v.c, .int .i64 x.v.s, .int .i64 x.v.r, .string (str x.v.p), .int .u64 x.v.d, v5, .int .i64 x.v.m] 44)
  refine ⟨j + 1, _, rfl, hj, ?_, h1, ?_, ?_⟩
  · show _ = _
    rw [List.map_append, hM, List.take_succ_eq_append_getElem hj, hx]; rfl
  · intro y hy
    rcases List.mem_append.1 hy with hy | hy
    · exact ko_other hRa h2 (((hO y hy).kept hK5).kept hKa) (by decide) (by decide)
    · simp at hy; subst hy
      exact ko_other hRa h2 ((hO5.mono hK.size).kept hKa) (by decide) (by decide)
  · exact (((hK.trans hK5 (by simp)).trans hKa (by simp))).grown h2 fun k hk => .inr (World.ownsRow.lt hRa k hk).1

set_option maxHeartbeats 8000000 in
set_option maxRecDepth 100000 in
theorem copySessions_call (w : World) (ao : Option Addr) (n c : Nat) (X : List (Se × Value)) (L : List Se) (hS : SlS w ao n c X) (hcom : X.map Prod.fst = L) (hn : n ≤ 100000) (hok : ∀ x ∈ L, okS x) :
    Calls Try.prog 41 #[.slice ao n c, .func (.func 40) #[] #[]] w fun e w' => CopS w L e w' := by
  have hl := hS.1
  have hc := hS.2.1
  have hm := hS.2.2.1
  unfold maxLen at hm
  have HS := hide hS
  have HL := hide hl
  have HCom := hide hcom
  have HOk := hide hok
  have HCl : Hid (L.length = n) := by show _ = _; rw [← hcom]; simpa using hl
  clear hS hl hok hcom
  go_enter Try.func41, Try.ntmps41
  go_wp2_with fail
  go_loopw [5, 10] (fun ov iv wr => CsI w L ov iv wr) (fun _ iv _ => n - (intOf iv).toNat)
  case atStart => exact ⟨0, [], rfl, Nat.zero_le _, rfl, RowS.nil _ _, fun x hx => (by cases hx), Kept.refl _ _⟩
  case round =>
    obtain ⟨j, X', rfl, hj, HM, HR, HO, HK⟩ := hrel
    by_cases hlt : j < n
    · have hlt' : (j : Int) < n := by omega
      have hjc : j ≤ c := by omega
      have hjK : j < X.length := by rw [HL.out]; exact hlt
      have hjg : j < L.length := by rw [HCl.out]; exact hlt
      have hCk := fst_get HCom.out hjK hjg
      obtain ⟨g4, o4, he4, hx4⟩ := (HS.out.kept HK.out).2.2.2.2.1 j hjK
      have hko := (HS.out.kept HK.out).2.2.2.2.2 _ (List.getElem_mem hjK)
      subst he4
      obtain ⟨h0, h1, h2, h3, h4, h5, h6, h7, h8, h9⟩ := hx4
      rw [hCk] at h0 h1 h2 h3 h4 h5 h6 h7 h9 hko
      obtain ⟨mo, mm, mc, hm2⟩ := hko.one
      rw [hm2] at h8 hko
      have hwc := HOk.out L[j] (List.getElem_mem hjg)
      have cK := fun W (hk : Kept [] wr W) => copySession_call W L[j] _ (hko.kept hk) hwc
      obtain ⟨x, hxe⟩ : ∃ x, x = L[j] := ⟨_, rfl⟩
      have HX : Hid (L[j]? = some x) := by show _ = _; rw [hxe]; simp
      rw [← hxe] at h0 h1 h2 h3 h4 h5 h6 h7 h9 cK
      unfold seV at cK
      have hlenK : X'.length ≤ 99999 := by have h := congrArg List.length HM.out; simp at h; omega
      clear hwc hxe hCk hjg hjK hm2 hko
      go_wp2_with fail
      refine (cK _ ((Kept.refl [] wr).alloc _)).mono ?_
      rintro _ w5 ⟨v5, rfl, hO5, hK5⟩
      replace hO5 := hO5.mono ((Kept.refl [] wr).alloc _).size
      replace hK5 := ((Kept.refl [] wr).alloc _).trans hK5 (by simp)
      obtain ⟨a5, n5, c5, rfl⟩ := hO5.ko.one
      have hRa : RowS w.heap.size (w5.alloc (.cells #[.int .i64 x.i, .int .i64 x.q, .string (str x.n), .int .i64 x.v.c, .int .i64 x.v.s, .int .i64 x.v.r, .string (str x.v.p), .int .u64 x.v.d, .slice a5 n5 c5, .int .i64 x.v.m] 44)) u5 X' := World.ownsRow.alloc (hK5.ownsRow HR.out (by simp)) _
      have hsz5 : w.heap.size ≤ w5.heap.size := Nat.le_trans HK.out.size hK5.size
      have HB := se_news (x := (x, .slice a5 n5 c5)) rfl (heap_alloc_new w5 (.cells #[.int .i64 x.i, .int .i64 x.q, .string (str x.n), .int .i64 x.v.c, .int .i64 x.v.s, .int .i64 x.v.r, .string (str x.v.p), .int .u64 x.v.d, .slice a5 n5 c5, .int .i64 x.v.m] 44))
      have HF : Hid (∀ v6 w6, RowS w.heap.size w6 v6 (X' ++ [(x, .slice a5 n5 c5)]) → (w5.alloc (.cells #[.int .i64 x.i, .int .i64 x.q, .string (str x.n), .int .i64 x.v.c, .int .i64 x.v.s, .int .i64 x.v.r, .string (str x.v.p), .int .u64 x.v.d, .slice a5 n5 c5, .int .i64 x.v.m] 44)).grownBy w6 u5.ownBlock → CsI w L v6 (.int .i64 ((j + 1 : Nat) : Int)) w6) := fun v6 w6 h1 h2 => cs_next HX.out HM.out HR.out HO.out HK.out hK5 hO5 h1 h2
      clear hO5 hK5 cK h0 h1 h2 h3 h4 h5 h6 h7 h8 h9
      go_wp2_with (at_builtin; refine wp_appS rfl _ _ rfl w.heap.size _ X' rfl hRa ⟨w5.heap.size, 0, none⟩ 1 1 [(x, .slice a5 n5 c5)] rfl rfl HB (by intro y hy; simp at hy; subst hy; rfl) (by simp; omega) (by simp; omega) ?b1)
      case b1 =>
        intro v6 w6 hO6 hg6
        have HF2 := hide (HF.out v6 w6 hO6 hg6)
        clear hO6 hg6 hRa HB
        go_wp2_with fail
        go_roundw
        case rel => exact HF2.out
        case measure => (simp [intOf] <;> omega)
    · have hlt' : ¬ (j : Int) < n := by omega
      have HE : Hid (X'.map Prod.fst = L) := by have h := HM.out; rw [List.take_of_length_le (by rw [HCl.out]; omega)] at h; exact h
      go_wp2_with fail
      go_ret
      exact ⟨_, X', rfl, HR.out, HO.out, HE.out, HK.out⟩

end Go.Proofs.Ytajkmhepedlmmaa
