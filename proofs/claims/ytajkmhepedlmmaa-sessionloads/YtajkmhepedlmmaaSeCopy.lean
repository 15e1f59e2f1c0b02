/-
  Copies in memory of their own: copyChange, copyCommit, copyAll of changes and of commits.
-/
import Derived.Test.YtajkmhepedlmmaaSeMem
import Derived.Test.YtajkmhepedlmmaaShelf
import Derived.Test.YtajkmhepedlmmaaSets
namespace Go.Proofs.Ytajkmhepedlmmaa
open Go.RowKit

theorem hide {p : Prop} (h : p) : Hid p := h

set_option maxHeartbeats 1000000 in
theorem strClone_call (l : List UInt8) (w : World) (hl : l.length ≤ 140737488355328) :
    Calls Try.prog 35 #[.string (str l)] w fun e w' => e = .returned (.string (str l)) ∧ Kept [] w w' := by
  have cC := Try.stringslite_Clone (str l)
  have hl' : (str l).size ≤ 281474976710656 := by rw [str_size]; omega
  go_enter Try.func35, Try.ntmps35
  go_wp2_with fail
  refine (cC _ hl').mono ?_
  rintro e w' ⟨rfl, hB⟩
  go_wp2
  go_ret
  exact ⟨rfl, Kept.of_below hB⟩

/-- Two blocks, laid one behind the other. -/
theorem lay2 (w : World) (a b : Array Value) (t : TypeId) : ((w.alloc (.cells a t)).alloc (.cells b t)).heap[w.heap.size]? = some (.cells a t (0, 0)) ∧ ((w.alloc (.cells a t)).alloc (.cells b t)).heap[w.heap.size + 1]? = some (.cells b t (0, 0)) := by
  refine ⟨(Below.heap_alloc _ _ _ (by simp)).trans (heap_alloc_new w _), ?_⟩
  have := heap_alloc_new (w.alloc (.cells a t)) (.cells b t)
  rw [World.size_alloc] at this
  exact this

theorem typed2 {w : World} {b c : Nat} {t : TypeId} {x y : Array Value} (hb : w.heap[b]? = some (.cells x t (0, 0))) (hc : w.heap[c]? = some (.cells y t (0, 0))) : Typed w [b, c] [t] := fun k hk cur t' mk hh => by
  simp at hk
  rcases hk with rfl | rfl
  · rw [hb] at hh; cases hh; simp
  · rw [hc] at hh; cases hh; simp

set_option maxHeartbeats 2000000 in
theorem copyChange_call (w : World) (x : Ch) (hx : okC x) :
    Calls Try.prog 53 #[chV x] w fun e w' => e = .returned (chV x) ∧ Kept [] w w' := by
  obtain ⟨W1, hW1⟩ : ∃ W1, W1 = (w.alloc (.cells #[.string (str x.p), .bool x.g, .int .u64 x.d] 89)).alloc (.cells #[.string ⟨#[]⟩, .bool false, .int .u64 0] 89) := ⟨_, rfl⟩
  have hK0 : Kept [] w W1 := by rw [hW1]; exact ((Kept.refl _ _).alloc _).alloc _
  have hL := lay2 w #[.string (str x.p), .bool x.g, .int .u64 x.d] #[.string ⟨#[]⟩, .bool false, .int .u64 0] 89
  rw [← hW1] at hL
  have HL := hide hL
  have cC := strClone_call x.p W1 (by unfold okC at hx; omega)
  unfold chV
  clear hx hL
  go_enter Try.func53, Try.ntmps53
  go_wp2_with fail
  rw [← hW1]
  clear hW1
  refine cC.mono ?_
  rintro _ w2 ⟨rfl, hK2⟩
  have hA := hK2.at HL.out.1 (by simp)
  have hB := hK2.at HL.out.2 (by simp)
  have a0 := cell_inC (k := 0) hA rfl
  have a1 := cell_inC (k := 1) hA rfl
  have a2 := cell_inC (k := 2) hA rfl
  have b0 := cell_inC (k := 0) hB rfl
  have b1 := cell_inC (k := 1) hB rfl
  have b2 := cell_inC (k := 2) hB rfl
  have fa := froz3 hA
  have fb := froz3 hB
  go_wp2_with fail
  refine bodyPost_ret (ch_res (by rfl) _ (by rfl) (setA3_at (((Kept.refl [w.heap.size] w2).setCell (by simp) _).at hB (by simp)) rfl _ _ _) rfl) rfl ?_
  exact ⟨rfl, (hK0.trans hK2 (by simp)).trans (setA3_kept ((Kept.refl [w.heap.size, w.heap.size + 1] w2).setCell (by simp) _) (by simp) _ _ _) (fun k hk => .inr (by simp at hk; omega))⟩

def CaI (w : World) (L : List Ch) (ov iv : Value) (wr : World) : Prop :=
  ∃ j : Nat, iv = .int .i64 (j : Int) ∧ j ≤ L.length ∧ Hid (OwnC w.heap.size wr ov (L.take j)) ∧ Hid (Kept [] w wr)

set_option maxHeartbeats 4000000 in
set_option maxRecDepth 100000 in
theorem copyChanges_call (w : World) (ao : Option Addr) (n c : Nat) (L : List Ch) (hS : SlC w ao n c L) (hn : n ≤ 4398046510976) (hok : ∀ x ∈ L, okC x) :
    Calls Try.prog 52 #[.slice ao n c, .func (.func 53) #[] #[]] w fun e w' => ∃ v, e = .returned v ∧ OwnC w.heap.size w' v L ∧ Kept [] w w' := by
  have hl := hS.1
  have hc := hS.2.1
  have hm := hS.2.2.1
  unfold maxLen at hm
  have HS := hide hS
  have HL := hide hl
  have HOk := hide hok
  clear hS hl hok
  go_enter Try.func52, Try.ntmps52
  go_wp2_with fail
  go_loopw [5, 10] (fun ov iv wr => CaI w L ov iv wr) (fun _ iv _ => n - (intOf iv).toNat)
  case atStart => exact ⟨0, rfl, Nat.zero_le _, OwnC.nil _ _, Kept.refl _ _⟩
  case round =>
    obtain ⟨j, rfl, hj, HO, HK⟩ := hrel
    by_cases hlt : j < n
    · have hlt' : (j : Int) < n := by omega
      have hjc : j ≤ c := by omega
      have hjL : j < L.length := by rw [HL.out]; exact hlt
      obtain ⟨g, o, rfl, hx⟩ := (HS.out.kept HK.out (by simp)).2.2.2 j hjL
      obtain ⟨x0, x1, x2⟩ := hx
      have hxo := HOk.out _ (List.getElem_mem hjL)
      have HN : Hid (L.take (j + 1) = L.take j ++ [L[j]]) := List.take_succ_eq_append_getElem hjL
      have HT : Hid ((L.take j).length = j) := by show _ = _; simp; omega
      have cC := fun W => copyChange_call W L[j] hxo
      obtain ⟨x, hxe⟩ : ∃ x, x = L[j] := ⟨_, rfl⟩
      rw [← hxe] at x0 x1 x2 cC HN
      unfold chV at cC
      clear hxe hxo hjL
      go_wp2_with fail
      refine (cC _).mono ?_
      rintro _ w5 ⟨rfl, hK5⟩
      replace hK5 := ((Kept.refl [] wr).alloc _).trans hK5 (by simp)
      have hO5 : OwnC w.heap.size w5 u5 (L.take j) := hK5.ownsRow HO.out (by simp)
      have hsz : w.heap.size ≤ w5.heap.size := Nat.le_trans HK.out.size hK5.size
      have HB := (SlC.lit w5 [x] (n := 1) rfl (by simp [maxLen]) (vs := #[.string (str x.p), .bool x.g, .int .u64 x.d]) rfl).runs'
      have hOa : OwnC w.heap.size (w5.alloc (.cells #[.string (str x.p), .bool x.g, .int .u64 x.d] 89)) u5 (L.take j) := World.ownsRow.alloc hO5 _
      clear cC x0 x1 x2
      go_wp2_with (at_builtin; refine wp_appC rfl _ _ rfl w.heap.size _ (L.take j) rfl hOa ⟨w5.heap.size, 0, none⟩ 1 1 [x] rfl rfl HB (by rw [HT.out]; simp; omega) (by simp; omega) ?b1)
      case b1 =>
        intro v6 w6 hO6 hg6
        have HK6 : Hid (Kept [] w w6) := grown_keptC ((HK.out.trans hK5 (by simp)).alloc _) hOa (Nat.le_refl _) hg6
        have HO6 : Hid (OwnC w.heap.size w6 v6 (L.take (j + 1))) := by show OwnC _ _ _ _; rw [HN.out]; exact hO6
        clear hO6 hg6 hOa hO5 HB hK5
        go_wp2_with fail
        go_roundw
        case rel => exact ⟨j + 1, by go_num, by rw [HL.out]; omega, HO6, HK6⟩
        case measure => simp [intOf]; omega
    · have hlt' : ¬ (j : Int) < n := by omega
      have HE : Hid (OwnC w.heap.size wr u5 L) := by have h := HO.out; rw [List.take_of_length_le (by rw [HL.out]; omega)] at h; exact h
      go_wp2_with fail
      go_ret
      exact ⟨_, rfl, HE.out, HK.out⟩

set_option maxHeartbeats 2000000 in
set_option maxRecDepth 100000 in
theorem copyCommit_call (w : World) (x : Com) (mo : Option Addr) (m mc : Nat) (hS : SlC w mo m mc x.c) (hx : okK x) :
    Calls Try.prog 48 #[.agg #[.int .i64 x.r, .int .i64 x.b, .string (str x.n), .slice mo m mc]] w fun e w' => ∃ v', e = .returned (.agg #[.int .i64 x.r, .int .i64 x.b, .string (str x.n), v']) ∧ OwnC w.heap.size w' v' x.c ∧ Kept [] w w' := by
  obtain ⟨W1, hW1⟩ : ∃ W1, W1 = (w.alloc (.cells #[.int .i64 x.r, .int .i64 x.b, .string (str x.n), .slice mo m mc] 65)).alloc (.cells #[.int .i64 0, .int .i64 0, .string ⟨#[]⟩, .slice none 0 0] 65) := ⟨_, rfl⟩
  have hK0 : Kept [] w W1 := by rw [hW1]; exact ((Kept.refl _ _).alloc _).alloc _
  have hL := lay2 w #[.int .i64 x.r, .int .i64 x.b, .string (str x.n), .slice mo m mc] #[.int .i64 0, .int .i64 0, .string ⟨#[]⟩, .slice none 0 0] 65
  rw [← hW1] at hL
  have HL := hide hL
  have HK0 := hide hK0
  have cC := strClone_call x.n W1 (by have := hx.1; omega)
  have cD := fun W (hk : Kept [] w W) => copyChanges_call W mo m mc x.c (hS.kept hk (by simp)) (by rw [← hS.1]; exact hx.2.1) hx.2.2
  clear hx hL hK0 hS
  go_enter Try.func48, Try.ntmps48
  go_wp2_with fail
  rw [← hW1]
  clear hW1
  refine cC.mono ?_
  rintro _ w2 ⟨rfl, hK2⟩
  have HA : Hid (w2.heap[w.heap.size]? = some (.cells #[.int .i64 x.r, .int .i64 x.b, .string (str x.n), .slice mo m mc] 65 (0, 0))) := hK2.at HL.out.1 (by simp)
  have HB : Hid (w2.heap[w.heap.size + 1]? = some (.cells #[.int .i64 0, .int .i64 0, .string ⟨#[]⟩, .slice none 0 0] 65 (0, 0))) := hK2.at HL.out.2 (by simp)
  obtain ⟨w3, hw3⟩ : ∃ w3, w3 = w2.setCell ⟨w.heap.size, 2, none⟩ (.string (str x.n)) := ⟨_, rfl⟩
  have HA3 : Hid (w3.heap[w.heap.size]? = some (.cells #[.int .i64 x.r, .int .i64 x.b, .string (str x.n), .slice mo m mc] 65 (0, 0))) := by show _ = _; rw [hw3]; exact heap_setCell_same _ _ 2 _ _ _ HA.out
  have HB3 : Hid (w3.heap[w.heap.size + 1]? = some (.cells #[.int .i64 0, .int .i64 0, .string ⟨#[]⟩, .slice none 0 0] 65 (0, 0))) := by show _ = _; rw [hw3]; exact ((Kept.refl [w.heap.size] w2).setCell (by simp) _).at HB.out (by simp)
  have hK3 : Kept [] w w3 := by
    rw [hw3]
    exact (HK0.out.trans hK2 (by simp)).setCell (.inr (Nat.le_refl _)) _
  have HK3 := hide hK3
  have a2 := cell_inC (k := 2) HA.out rfl
  have f2 := froz3 HA.out 2
  have a3 : w3.cell? ⟨w.heap.size, 3, none⟩ = some (.slice mo m mc) := cell_inC HA3.out rfl
  rw [hw3] at a3
  clear hK2 hK3
  go_wp2_with fail
  rw [← hw3]
  clear hw3
  refine (cD _ HK3.out).mono ?_
  rintro _ w4 ⟨v', rfl, hO, hK4⟩
  obtain ⟨a', n', c', rfl, _, _⟩ := hO.chV
  have hA4 := hK4.at HA3.out (by simp)
  have hB4 := hK4.at HB3.out (by simp)
  have q0 := cell_inC (k := 0) hA4 rfl
  have q1 := cell_inC (k := 1) hA4 rfl
  have q2 := cell_inC (k := 2) hA4 rfl
  have q3 := cell_inC (k := 3) hA4 rfl
  have r0 := cell_inC (k := 0) hB4 rfl
  have r1 := cell_inC (k := 1) hB4 rfl
  have r2 := cell_inC (k := 2) hB4 rfl
  have r3 := cell_inC (k := 3) hB4 rfl
  have fa := froz3 hA4
  have fb := froz3 hB4
  have HB4 := hide hB4
  have HA4 := hide hA4
  have HO := hide hO
  have HK4 := hide hK4
  clear hO hK4 hA4 hB4 a2 a3 f2 cC cD
  go_wp2_with fail
  have HKe : Hid (Kept [w.heap.size, w.heap.size + 1] w4 (setA4 (w4.setCell ⟨w.heap.size, 3, none⟩ (.slice a' n' c')) (w.heap.size + 1) (.int .i64 x.r) (.int .i64 x.b) (.string (str x.n)) (.slice a' n' c'))) := setA4_kept ((Kept.refl _ w4).setCell (by simp) _) (by simp) _ _ _ _
  refine bodyPost_ret (com_res (by rfl) _ (by rfl) (setA4_at (((Kept.refl [w.heap.size] w4).setCell (by simp) _).at HB4.out (by simp)) rfl _ _ _ _) rfl) rfl ?_
  exact ⟨_, rfl, row_typed HKe.out (typed2 HA4.out HB4.out) (HO.out.mono HK3.out.size) (by decide), (HK3.out.trans HK4.out (by simp)).trans HKe.out (fun k hk => .inr (by simp at hk; omega))⟩

theorem fst_get {α β : Type} {K : List (α × β)} {cs : List α} (h : K.map Prod.fst = cs) {j : Nat} (h1 : j < K.length) (h2 : j < cs.length) : K[j].1 = cs[j] := by subst h; simp

/-- What copies of commits come to. -/
def CopK (w : World) (cs : List Com) (e : Ending) (w' : World) : Prop := ∃ v, e = .returned v ∧ KoO w.heap.size w' v cs ∧ Kept [] w w'

def CkI (w : World) (cs : List Com) (ov iv : Value) (wr : World) : Prop :=
  ∃ (j : Nat) (K' : List (Com × Value)), iv = .int .i64 (j : Int) ∧ j ≤ cs.length ∧ Hid (K'.map Prod.fst = cs.take j) ∧ Hid (RowK w.heap.size wr ov K') ∧ Hid (OwnK w.heap.size wr K') ∧ Hid (Kept [] w wr)

theorem row_other2 {w w' : World} {B e size n B2 e2 size2 n2 : Nat} {v v2 : Value} {xs xs2 : List Value} (h : w.ownsRow B e size v n xs) (hg : w.grownBy w' v.ownBlock) (h2 : w.ownsRow B2 e2 size2 v2 n2 xs2) (hne : e2 ≠ e) : w'.ownsRow B2 e2 size2 v2 n2 xs2 := by
  have hK : Kept v.ownBlock.toList w w' := (Kept.refl _ w).grown hg fun k hk => .inl (mem_own.2 hk)
  refine row_typed hK (Ts := [e]) (fun k hk cur t mk hh => ?_) h2 (by simpa using hne)
  obtain ⟨c2, h3⟩ := row_block h (mem_own.1 hk)
  rw [h3] at hh; cases hh; simp

/-- One commit more. -/
theorem ck_next {w wr w5 w6 : World} {cs : List Com} {j : Nat} {K' : List (Com × Value)} {ov v5 v6 : Value} {x : Com} (hx : cs[j]? = some x) (hM : K'.map Prod.fst = cs.take j) (hR : RowK w.heap.size wr ov K') (hO : OwnK w.heap.size wr K') (hK : Kept [] w wr)
    (hK5 : Kept [] wr w5) (hO5 : OwnC wr.heap.size w5 v5 x.c) (h1 : RowK w.heap.size w6 v6 (K' ++ [(x, v5)])) (h2 : (w5.alloc (.cells #[.int .i64 x.r, .int .i64 x.b, .string (str x.n), v5] 65)).grownBy w6 ov.ownBlock) :
    CkI w cs v6 (.int .i64 ((j + 1 : Nat) : Int)) w6 := by
  obtain ⟨hj, hx⟩ := List.getElem?_eq_some_iff.1 hx
  have hRa : RowK w.heap.size (w5.alloc (.cells #[.int .i64 x.r, .int .i64 x.b, .string (str x.n), v5] 65)) ov K' := World.ownsRow.alloc (hK5.ownsRow hR (by simp)) _
  have hKa := (Kept.refl [] w5).alloc (.cells #[.int .i64 x.r, .int .i64 x.b, .string (str x.n), v5] 65)
  refine ⟨j + 1, _, rfl, hj, ?_, h1, ?_, ?_⟩
  · show _ = _
    rw [List.map_append, hM, List.take_succ_eq_append_getElem hj, hx]; rfl
  · intro y hy
    rcases List.mem_append.1 hy with hy | hy
    · exact row_other2 hRa h2 (hKa.ownsRow (hK5.ownsRow (hO y hy) (by simp)) (by simp)) (by decide)
    · simp at hy; subst hy
      exact row_other2 hRa h2 (hKa.ownsRow (hO5.mono hK.size) (by simp)) (by decide)
  · exact (((hK.trans hK5 (by simp)).trans hKa (by simp))).grown h2 fun k hk => .inr (World.ownsRow.lt hRa k hk).1

/-- A commit that lies in a block of its own. -/
theorem co_news {w : World} {g : Nat} {x : Com × Value} {vs : Array Value} (hv : vs = (coC x).toArray) (h : w.heap[g]? = some (.cells vs 65 (0, 0))) : ∀ (j : Nat) (u : Value), ([x].flatMap coC)[j]? = some u → w.cell? ((⟨g, 0, none⟩ : Addr).add j) = some u := by
  intro j u hj
  subst hv
  rw [adr_addC, Nat.zero_add]
  refine cell_inC h ?_
  simpa using hj

set_option maxHeartbeats 8000000 in
set_option maxRecDepth 100000 in
theorem copyCommits_call (w : World) (ao : Option Addr) (n c : Nat) (K : List (Com × Value)) (cs : List Com) (hS : SlK w ao n c K) (hcom : K.map Prod.fst = cs) (hn : n ≤ 2513169434843) (hok : ∀ x ∈ cs, okK x) :
    Calls Try.prog 47 #[.slice ao n c, .func (.func 48) #[] #[]] w fun e w' => CopK w cs e w' := by
  have hl := hS.1
  have hc := hS.2.1
  have hm := hS.2.2.1
  unfold maxLen at hm
  have HS := hide hS
  have HL := hide hl
  have HCom := hide hcom
  have HOk := hide hok
  have HCl : Hid (cs.length = n) := by show _ = _; rw [← hcom]; simpa using hl
  clear hS hl hok hcom
  go_enter Try.func47, Try.ntmps47
  go_wp2_with fail
  go_loopw [5, 10] (fun ov iv wr => CkI w cs ov iv wr) (fun _ iv _ => n - (intOf iv).toNat)
  case atStart => exact ⟨0, [], rfl, Nat.zero_le _, rfl, RowK.nil _ _, fun x hx => (by cases hx), Kept.refl _ _⟩
  case round =>
    obtain ⟨j, K', rfl, hj, HM, HR, HO, HK⟩ := hrel
    by_cases hlt : j < n
    · have hlt' : (j : Int) < n := by omega
      have hjc : j ≤ c := by omega
      have hjK : j < K.length := by rw [HL.out]; exact hlt
      have hjg : j < cs.length := by rw [HCl.out]; exact hlt
      have hCk := fst_get HCom.out hjK hjg
      obtain ⟨g4, o4, he4, hx4⟩ := (HS.out.kept HK.out).2.2.2.1 j hjK
      obtain ⟨mo, mm, mc, hm2, hsl, _⟩ := (HS.out.kept HK.out).2.2.2.2 _ (List.getElem_mem hjK)
      subst he4
      obtain ⟨h40, h41, h42, h43⟩ := hx4
      rw [hm2] at h43
      rw [hCk] at h40 h41 h42 hsl
      have hwc := HOk.out cs[j] (List.getElem_mem hjg)
      have cK := fun W (hk : Kept [] wr W) => copyCommit_call W cs[j] mo mm mc (hsl.kept hk (by simp)) hwc
      obtain ⟨x, hxe⟩ : ∃ x, x = cs[j] := ⟨_, rfl⟩
      have HX : Hid (cs[j]? = some x) := by show _ = _; rw [hxe]; simp
      rw [← hxe] at h40 h41 h42 cK
      have hlenK : K'.length ≤ 2513169434842 := by have h := congrArg List.length HM.out; simp at h; omega
      clear hwc hsl hxe hCk hjg hjK hm2
      go_wp2_with fail
      refine (cK _ ((Kept.refl [] wr).alloc _)).mono ?_
      rintro _ w5 ⟨v5, rfl, hO5, hK5⟩
      replace hO5 := hO5.mono ((Kept.refl [] wr).alloc _).size
      replace hK5 := ((Kept.refl [] wr).alloc _).trans hK5 (by simp)
      obtain ⟨a5, n5, c5, rfl, _, _⟩ := hO5.chV
      have hRa : RowK w.heap.size (w5.alloc (.cells #[.int .i64 x.r, .int .i64 x.b, .string (str x.n), .slice a5 n5 c5] 65)) u5 K' := World.ownsRow.alloc (hK5.ownsRow HR.out (by simp)) _
      have hsz5 : w.heap.size ≤ w5.heap.size := Nat.le_trans HK.out.size hK5.size
      have HB := co_news (x := (x, .slice a5 n5 c5)) rfl (heap_alloc_new w5 (.cells #[.int .i64 x.r, .int .i64 x.b, .string (str x.n), .slice a5 n5 c5] 65))
      have HF : Hid (∀ v6 w6, RowK w.heap.size w6 v6 (K' ++ [(x, .slice a5 n5 c5)]) → (w5.alloc (.cells #[.int .i64 x.r, .int .i64 x.b, .string (str x.n), .slice a5 n5 c5] 65)).grownBy w6 u5.ownBlock → CkI w cs v6 (.int .i64 ((j + 1 : Nat) : Int)) w6) := fun v6 w6 h1 h2 => ck_next HX.out HM.out HR.out HO.out HK.out hK5 hO5 h1 h2
      clear hO5 hK5 cK h40 h41 h42 h43
      go_wp2_with (at_builtin; refine wp_appK rfl _ _ rfl w.heap.size _ K' rfl hRa ⟨w5.heap.size, 0, none⟩ 1 1 [(x, .slice a5 n5 c5)] rfl rfl HB (by intro y hy; simp at hy; subst hy; rfl) (by simp; omega) (by simp; omega) ?b1)
      case b1 =>
        intro v6 w6 hO6 hg6
        have HF2 := hide (HF.out v6 w6 hO6 hg6)
        clear hO6 hg6 hRa HB
        go_wp2_with fail
        go_roundw
        case rel => exact HF2.out
        case measure => (simp [intOf] <;> omega)
    · have hlt' : ¬ (j : Int) < n := by omega
      have HE : Hid (K'.map Prod.fst = cs) := by have h := HM.out; rw [List.take_of_length_le (by rw [HCl.out]; omega)] at h; exact h
      go_wp2_with fail
      go_ret
      exact ⟨_, rfl, ⟨K', HR.out, HO.out, HE.out⟩, HK.out⟩

end Go.Proofs.Ytajkmhepedlmmaa
