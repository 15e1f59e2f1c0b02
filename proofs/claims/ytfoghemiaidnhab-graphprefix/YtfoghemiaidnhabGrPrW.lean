/-
  GraphPrefix: the walk.
-/
import Derived.Test.YtfoghemiaidnhabGrLoop
import Derived.Test.YtfoghemiaidnhabGrLoad
import Derived.Test.YtfoghemiaidnhabGrRead
import Derived.Test.YtfoghemiaidnhabGrSame
import Derived.Deep.CutRange
import Derived.Handy
namespace Go.Proofs.Ytfoghemiaidnhab
open Go.RowKit

theorem live_readP {w0 w : World} {b : Nat} {G : Gr} (h : Live w0 w b G) (q : List UInt8) (hq : q.length ≤ 1000000000) :
    Calls Try.prog 8 #[.pointer (some ⟨b, 0, none⟩), .string (str q)] w fun e w' => e = .returned (vdV (readV G q)) ∧ Kept [] w w' := by
  obtain ⟨S, ⟨v, p, t, mb, K, hG, rfl⟩, h2, h3⟩ := h
  exact read_call hG q hq

/-- The cells of a verdict without commits. -/
def vdC (v : Vd) : List Value := [.int .i64 v.c, .int .i64 0, .int .i64 v.r, .string (str v.p), .int .u64 v.d, .slice none 0 0, .int .i64 0]

/-- A row of verdicts that is owned. -/
def OwnV (B : Nat) (w : World) (v : Value) (L : List Vd) : Prop := w.ownsRow B 31 7 v L.length (L.flatMap vdC)

theorem info_vd : (Try.prog.info? 31).map (fun i => (i.zero, i.size, i.bytes)) = some (some (.agg #[.int .i64 0, .int .i64 0, .int .i64 0, .string ⟨#[]⟩, .int .u64 0, .slice none 0 0, .int .i64 0]), 7, 80) := by kernel_rfl

theorem vdC_get (L : List Vd) (i : Nat) (h : i < L.length) (j : Nat) (hj : j < 7) : (L.flatMap vdC)[i * 7 + j]? = (vdC L[i])[j]? := by
  induction L generalizing i with
  | nil => simp at h
  | cons x L ih =>
    cases i with
    | zero => simp only [List.flatMap_cons, Nat.zero_mul, Nat.zero_add, List.getElem_cons_zero]; rw [List.getElem?_append_left (by simp [vdC]; omega)]
    | succ i =>
      simp only [List.flatMap_cons, List.getElem_cons_succ]
      rw [List.getElem?_append_right (by simp [vdC]; omega)]
      rw [← ih i (by simpa using h)]
      congr 1
      simp [vdC]; omega

theorem wp_appV {w : World} {ops : Array Oper} {rest : List Oper} {o : Oper} {a : Act} {Q : Exit → Act → World → Prop} (hgd : o.guard = none) (s x : Operand)
    (hop : o.op = .call { callee := .builtin .append, args := #[s, x], argTypes := #[27, 27] })
    (B : Nat) (v : Value) (l : List Vd) (hs : a.eval s = v) (hO : OwnV B w v l) (g : Nat) (y : Vd) (hx : a.eval x = .slice (some ⟨g, 0, none⟩) 1 1) (hc : w.heap[g]? = some (.cells #[.int .i64 y.c, .int .i64 0, .int .i64 y.r, .string (str y.p), .int .u64 y.d, .slice none 0 0, .int .i64 0] 31 (0, 0)))
    (hlen : l.length ≤ 100000000) (hB : B ≤ w.heap.size)
    (h : ∀ v' w', OwnV B w' v' (l ++ [y]) → w.grownBy w' v.ownBlock → wpList Try.prog ops Q rest (a.put o.dst v') w') : wpList Try.prog ops Q (o :: rest) a w := by
  obtain ⟨i0, hi, hz0, hz1, hz2⟩ := info_parts info_vd
  refine wpList_append_own w hgd s x 27 hop B 31 i0 (.agg #[.int .i64 0, .int .i64 0, .int .i64 0, .string ⟨#[]⟩, .int .u64 0, .slice none 0 0, .int .i64 0]) 7 80 Try.underlying27 hi hz0 hz1 hz2 rfl (by decide) v l.length (l.flatMap vdC) hs hO ⟨g, 0, none⟩ 1 1 (vdC y) hx rfl (World.news_of_block hc) ?_ (by unfold maxLen; omega) (by omega) hB ?_
  · intro u hu; simp [vdC] at hu; rcases hu with rfl | rfl | rfl | rfl | rfl | rfl | rfl <;> rfl
  · intro v' w' h1 h2 _
    refine h v' w' ?_ h2
    unfold OwnV
    rw [List.length_append, List.flatMap_append]
    simpa using h1

/-- What each beginning of the commits read. -/
def WasP (G : Gr) (L : List Vd) : Prop := L.length = G.cs.length ∧ ∀ k (h : k < L.length), ∃ G', loadL voidG (G.cs.take (k + 1)) = some G' ∧ L[k] = readV G' [97]

theorem was_land {G : Gr} (hG : Reach G) {L : List Vd} (h : WasP G L) {b : Int} {n : List UInt8} {l : List Ch} (he : endV G b n l = none) : WasP (landG G b n l) (L ++ [readV (landG G b n l) [97]]) := by
  have hl := h.1
  have hcs : (landG G b n l).cs = G.cs ++ [newC G b n l] := by rw [(landV_none he).2]; rfl
  refine ⟨by rw [hcs]; simp [hl], fun k hk => ?_⟩
  simp at hk
  by_cases hkl : k < L.length
  · obtain ⟨G', h1, h2⟩ := h.2 k hkl
    refine ⟨G', ?_, by rw [List.getElem_append_left hkl]; exact h2⟩
    rw [hcs, List.take_append_of_le_length (by omega)]
    exact h1
  · have : k = L.length := by omega
    subst this
    refine ⟨landG G b n l, ?_, by simp⟩
    have := (Reach.land b n l hG).load
    rw [List.take_of_length_le (by rw [hcs]; simp; omega)]
    exact this

def PrI (w0 : World) (b : Nat) (D : List De) (wv iv : Value) (wr : World) : Prop :=
  ∃ (i : Nat) (L : List Vd), iv = .int .i64 (i : Int) ∧ i ≤ D.length ∧ Hid (Live w0 wr b (landAll (D.take i))) ∧ Hid (WasP (landAll (D.take i)) L) ∧ Hid (OwnV w0.heap.size wr wv L)

/-- A row of verdicts that was made behind w0 stays over a landing. -/
theorem ownV_off {B : Nat} {w w' : World} {v : Value} {L : List Vd} (h : OwnV B w v L) (hO : Off w w') : OwnV B w' v L := by
  obtain ⟨h1, h2⟩ := h
  refine ⟨h1, ?_⟩
  rcases h2 with h2 | ⟨g, cap, cur, hv, hg, hh, r⟩
  · exact .inl h2
  · exact .inr ⟨g, cap, cur, hv, hg, hO _ _ _ hh (by decide) (by decide), r⟩

/-- The block of the verdict, laid ahead of a landing. -/
theorem box_off {w w3 : World} {v0 v1 v2 v3 v4 v5 v6 : Value} (hO : Off (w.alloc (.cells #[v0, v1, v2, v3, v4, v5, v6] 31)).drew w3) : Hid (w3.heap[w.heap.size]? = some (.cells #[v0, v1, v2, v3, v4, v5, v6] 31 (0, 0))) :=
  hO _ _ _ (heap_alloc_new w _) (by decide) (by decide)

theorem live_box {w0 w w' : World} {b Bk : Nat} {G : Gr} {cur : Array Value} {mk : Nat × Nat} (h : Live w0 w b G) (hB : w.heap[Bk]? = some (.cells cur 31 mk)) (k : Kept [Bk] w w') (hlt : w0.heap.size ≤ Bk) : Live w0 w' b G := by
  obtain ⟨S, ⟨v, p, t, mb, K, hG, rfl⟩, h2, h3⟩ := h
  refine ⟨_, ⟨v, p, t, mb, K, hG.keep k (Ts := [31]) (fun i hi hm => ?_) (fun i hi cur' t' mk' hh => ?_) (by decide) (by decide) (by decide), rfl⟩, h2.trans k (fun i hi => ?_), h3⟩
  · rw [List.mem_singleton] at hm
    subst hm
    have := hG.typed i hi _ _ _ hB
    exact absurd this (by decide)
  · rw [List.mem_singleton] at hi
    subst hi
    rw [hB] at hh; cases hh; simp
  · rw [List.mem_singleton] at hi
    subst hi
    exact .inr hlt

theorem live_rowV {w0 w w' : World} {b : Nat} {G : Gr} {v : Value} {L : List Vd} (h : Live w0 w b G) (hO : OwnV w0.heap.size w v L) (hg : w.grownBy w' v.ownBlock) : Live w0 w' b G := by
  have hk : Kept v.ownBlock.toList w w' := (Kept.refl v.ownBlock.toList w).grown hg fun k hk => .inl (mem_own.2 hk)
  cases hv : v.ownBlock with
  | none => rw [hv] at hk; exact h.kept hk
  | some Bk =>
    rw [hv] at hk
    obtain ⟨cur, hc⟩ := row_block hO hv
    refine live_box h hc hk ?_
    obtain ⟨_, h2⟩ := hO
    rcases h2 with ⟨rfl, _⟩ | ⟨g, cap, cur, rfl, hg, _⟩
    · cases hv
    · cases hv; exact hg

theorem off_box {w w3 w' : World} {Bk : Nat} (h : Off w w3) (k : Kept [Bk] w3 w') (hlt : w.heap.size ≤ Bk) : Off w w' := fun i vs t hi h1 h2 =>
  k.at (h i vs t hi h1 h2) (by have := lt_of_at hi; simp; omega)

theorem SlK.take {w : World} {ao : Option Addr} {n c : Nat} {K : List (Com × Value)} (h : SlK w ao n c K) {k : Nat} (hk : k ≤ n) : SlK w ao k c (K.take k) := by
  obtain ⟨h1, h2, h3, h4, h5⟩ := h
  refine ⟨by simp; omega, by omega, h3, fun i hi => ?_, fun x hx => h5 x (List.mem_of_mem_take hx)⟩
  simp at hi
  obtain ⟨b, o, e, hx⟩ := h4 i (by omega)
  exact ⟨b, o, e, by simpa using hx⟩

theorem SlK.drop {w : World} {b o n c : Nat} {K : List (Com × Value)} (h : SlK w (Option.some ⟨b, o, none⟩) n c K) {k : Nat} (hk : k ≤ n) : SlK w (Option.some ⟨b, o + k * 4, none⟩) (n - k) (c - k) (K.drop k) := by
  obtain ⟨h1, h2, h3, h4, h5⟩ := h
  refine ⟨by simp; omega, by omega, by omega, fun i hi => ⟨b, o + k * 4, rfl, ?_⟩, fun x hx => h5 x (List.mem_of_mem_drop hx)⟩
  simp at hi
  obtain ⟨b', o', e, hx⟩ := h4 (k + i) (by omega)
  cases e
  rw [show o + k * 4 + i * 4 = o + (k + i) * 4 from by omega]
  simpa using hx

theorem pre_range (b : Int) {k : Int} (hk : 0 < k) : -k < b.tmod k ∧ b.tmod k < k := by
  have h5 := Int.tmod_lt_of_pos b hk
  refine ⟨?_, h5⟩
  rcases Int.le_total 0 b with h | h
  · have := Int.tmod_nonneg k h; omega
  · have h2 := Int.tmod_lt_of_pos (-b) hk
    rw [Int.neg_tmod] at h2
    omega

def CellsV (w : World) (g o : Nat) (v : Vd) : Prop :=
  w.cell? ⟨g, o, none⟩ = some (.int .i64 v.c) ∧ w.cell? ⟨g, o + 1, none⟩ = some (.int .i64 0) ∧ w.cell? ⟨g, o + 2, none⟩ = some (.int .i64 v.r) ∧ w.cell? ⟨g, o + 3, none⟩ = some (.string (str v.p)) ∧ w.cell? ⟨g, o + 4, none⟩ = some (.int .u64 v.d) ∧ w.cell? ⟨g, o + 5, none⟩ = some (.slice none 0 0) ∧ w.cell? ⟨g, o + 6, none⟩ = some (.int .i64 0)

theorem CellsV.kept {w w' : World} {g o : Nat} {v : Vd} (h : CellsV w g o v) (k : Kept [] w w') : CellsV w' g o v := by
  obtain ⟨h0, h1, h2, h3, h4, h5, h6⟩ := h
  exact ⟨k.cell h0 (by simp), k.cell h1 (by simp), k.cell h2 (by simp), k.cell h3 (by simp), k.cell h4 (by simp), k.cell h5 (by simp), k.cell h6 (by simp)⟩

theorem OwnV.cells {B : Nat} {w : World} {v : Value} {L : List Vd} (h : OwnV B w v L) {i : Nat} (hi : i < L.length) : ∃ g c, v = .slice (some ⟨g, 0, none⟩) L.length c ∧ L.length ≤ c ∧ c ≤ maxLen ∧ CellsV w g (i * 7) L[i] := by
  have h' := h
  obtain ⟨h1, h2⟩ := h
  rcases h2 with ⟨hv, hn⟩ | ⟨g, cap, cur, hv, hg, hh, h3, h4, h5, h6⟩
  · omega
  · have hc : ∀ j, j < 7 → w.cell? ⟨g, i * 7 + j, none⟩ = (vdC L[i])[j]? := fun j hj => by
      have := World.ownsRow.cellAt (w := w) (base := B) (e := 31) (size := 7) (n := L.length) (cap := cap) (g := g) (xs := L.flatMap vdC) (by rw [← hv]; exact h') (i * 7 + j) (by omega)
      rw [this, vdC_get L i hi j hj]
    exact ⟨g, cap, hv, h3, h4, hc 0 (by omega), hc 1 (by omega), hc 2 (by omega), hc 3 (by omega), hc 4 (by omega), hc 5 (by omega), hc 6 (by omega)⟩

theorem small_wf {G : Gr} (h : Wf G) {c : Com} (hc : c ∈ G.cs) : SmallC c := by
  obtain ⟨h1, h2, h3, _⟩ := h.com c hc
  exact ⟨by omega, by have := h1.2.1; omega, fun y hy => by have := h2 y hy; omega⟩

set_option linter.unusedSimpArgs false in
set_option maxHeartbeats 16000000 in
set_option maxRecDepth 100000 in
theorem prefix_walk (w : World) (ao : Option Addr) (n c : Nat) (D : List De) (hS : SlD w ao n c D) (at0 : Int) :
    Calls Try.prog 3 #[.slice ao n c, .int .i64 at0] w fun e w' => e = .returned (.bool true) ∧ Kept [] w w' := by
  have hl := hS.1
  subst hl
  have hc := hS.2.1
  have hm := hS.2.2.1
  unfold maxLen at hm
  have cR := fun W (hk : Kept [] w W) => room_callD W ao D.length c D (hS.kept hk)
  have HS : Hid (SlD w ao D.length c D) := hS
  clear hS
  cases hroom : roomD D with
  | false =>
    rw [hroom] at cR
    clear hroom
    go_enter Try.func3, Try.ntmps3
    go_wp2_with fail
    refine (awake_callG w).mono ?_
    rintro _ w1 ⟨rfl, hK1⟩
    go_wp2_with fail
    refine (cR w1 hK1).mono ?_
    rintro _ W ⟨rfl, hW0⟩
    obtain rfl := hW0.symm
    go_wp2_with fail
    go_ret
    exact ⟨rfl, hK1⟩
  | true =>
    have HR : Hid (RoomD D) := roomD_true.1 hroom
    rw [hroom] at cR
    clear hroom
    have hD100 : D.length ≤ 100 := HR.out.1
    go_enter Try.func3, Try.ntmps3
    go_wp2_with fail
    refine (awake_callG w).mono ?_
    rintro _ w1 ⟨rfl, hK1⟩
    go_wp2_with fail
    refine (cR w1 hK1).mono ?_
    rintro _ W ⟨rfl, hW0⟩
    obtain rfl := hW0.symm
    go_wp2_with fail
    refine (live_new w1).mono ?_
    rintro _ w2 ⟨b, rfl, hG2⟩
    have HD : Hid (SlD w1 ao D.length c D) := HS.out.kept hK1
    have HK1 : Hid (Kept [] w w1) := hK1
    have HG2 : Hid (Live w1 w2 b voidG) := hG2
    clear cR hK1 hG2 HS
    go_wp2_with fail
    go_loopw [6, 7] (fun wv iv wr => PrI w1 b D wv iv wr) (fun _ iv _ => D.length - (intOf iv).toNat)
    case atStart => exact ⟨0, [], rfl, Nat.zero_le _, HG2.out, ⟨rfl, fun k h => by simp at h⟩, World.ownsRow_nil _ _ _ _⟩
    case round =>
      obtain ⟨i, L, rfl, hi, HLv, HW, HO⟩ := hrel
      by_cases hlt : i < D.length
      · have hlt' : (i : Int) < D.length := by omega
        have hic : i ≤ c := by omega
        obtain ⟨g, o, rfl, hx⟩ := HD.out.2.2.2 i hlt
        have hxr := hx.kept HLv.out.keeps
        have cL := fun W (hk : Kept [] wr W) => live_landD (HLv.out.kept hk) hlt HR.out (hxr.sl.kept hk (by simp)) hxr.nil
        have HRe : Hid (Reach (landAll (D.take i))) := landAll_reach _
        have HRe2 : Hid (Reach (landAll (D.take (i + 1)))) := landAll_reach _
        have HT : Hid (landAll (D.take (i + 1)) = landG (landAll (D.take i)) D[i].b D[i].n D[i].l) := landAll_take hlt
        have hlL : L.length ≤ 100 := by have h1 := HW.out.1; have h2 := landAll_len (D.take i); simp at h2; omega
        obtain ⟨k0, k1, k2, _, _⟩ := hx
        obtain ⟨c0, c1, c2, _, _⟩ := hxr
        generalize D[i] = x at *
        obtain ⟨G, hGe⟩ : ∃ G, G = landAll (D.take i) := ⟨_, rfl⟩
        obtain ⟨G2, hG2e⟩ : ∃ G2, G2 = landAll (D.take (i + 1)) := ⟨_, rfl⟩
        rw [← hGe] at HLv HW HRe HT cL
        have HG2e : Hid (G2 = landAll (D.take (i + 1))) := hG2e
        rw [← hG2e] at HRe2 HT
        have cL2 : ∀ W, Kept [] wr W → _ := cL
        rw [← hG2e] at cL
        obtain ⟨vv, hvv⟩ : ∃ vv, vv = landV G x.b x.n x.l := ⟨_, rfl⟩
        have HVV : Hid (vv = landV G x.b x.n x.l) := hvv
        rw [← hvv] at cL
        simp only [vdV, vdW] at cL
        clear cL2 hGe hG2e hvv
        go_upto_region 12 with fail
        go_cut [8] from 28 to 44 (fun s8 wx => ∃ Bk : Nat, s8 = .pointer (some ⟨Bk, 0, none⟩) ∧ wx.cell? ⟨Bk, 0, none⟩ = some (.int .i64 vv.c) ∧ Hid (Live w1 wx b G2) ∧ Hid (Off wr wx))
        case first =>
          refine wp_region_held_drew (S := fun w' => w'.cell? ⟨g, o + i * 3, none⟩ = some (.int .i64 x.b) ∧ w'.cell? ⟨g, o + i * 3 + 1, none⟩ = some (.string (str x.n)) ∧ w'.cell? ⟨g, o + i * 3 + 2, none⟩ = some (.slice x.mo x.m x.mc)) (by kernel_rfl) ⟨c0, c1, c2⟩ (fun hHeld => ?_)
          refine wpAnyH_take (i := 0) (v := ?_) rfl (by kernel_rfl) (by kernel_rfl) (by kernel_rfl) (fun _ _ _ h => h) (Or.inl ⟨by rfl, ?_⟩) hHeld ?_
          rotate_left
          · intro w9 hSw; (try dsimp only at hSw); go_simp; (try with_reducible rfl)
          try simp only [Act.put, List.setIfInBounds_toArray, List.set_cons_zero, List.set_cons_succ]
          refine wpAnyH_take (i := 1) (v := ?_) rfl (by kernel_rfl) (by kernel_rfl) (by kernel_rfl) (fun _ _ _ h => h) (Or.inl ⟨by rfl, ?_⟩) hHeld ?_
          rotate_left
          · intro w9 hSw; (try dsimp only at hSw); go_simp; (try with_reducible rfl)
          try simp only [Act.put, List.setIfInBounds_toArray, List.set_cons_zero, List.set_cons_succ]
          refine wpAnyH_take (i := 2) (v := ?_) rfl (by kernel_rfl) (by kernel_rfl) (by kernel_rfl) (fun _ _ _ h => h) (Or.inl ⟨by rfl, ?_⟩) hHeld ?_
          rotate_left
          · intro w9 hSw; (try dsimp only at hSw); go_simp; (try with_reducible rfl)
          try simp only [Act.put, List.setIfInBounds_toArray, List.set_cons_zero, List.set_cons_succ]
          refine wpAnyH_take (i := 3) (v := ?_) rfl (by kernel_rfl) (by kernel_rfl) (by kernel_rfl) (fun _ _ _ h => h) (Or.inl ⟨by rfl, ?_⟩) hHeld ?_
          rotate_left
          · intro w9 hSw; (try dsimp only at hSw); go_simp; (try with_reducible rfl)
          try simp only [Act.put, List.setIfInBounds_toArray, List.set_cons_zero, List.set_cons_succ]
          refine wpAnyH_take (i := 4) (v := ?_) rfl (by kernel_rfl) (by kernel_rfl) (by kernel_rfl) (fun _ _ _ h => h) (Or.inl ⟨by rfl, ?_⟩) hHeld ?_
          rotate_left
          · intro w9 hSw; (try dsimp only at hSw); go_simp; (try with_reducible rfl)
          try simp only [Act.put, List.setIfInBounds_toArray, List.set_cons_zero, List.set_cons_succ]
          refine wpAnyH_take (i := 5) (v := ?_) rfl (by kernel_rfl) (by kernel_rfl) (by kernel_rfl) (fun _ _ _ h => h) (Or.inl ⟨by rfl, ?_⟩) hHeld ?_
          rotate_left
          · intro w9 hSw; (try dsimp only at hSw); go_simp; (try with_reducible rfl)
          try simp only [Act.put, List.setIfInBounds_toArray, List.set_cons_zero, List.set_cons_succ]
          refine wpAnyH_take (i := 6) (v := ?_) rfl (by kernel_rfl) (by kernel_rfl) (by kernel_rfl) (fun _ _ _ h => h) (Or.inl ⟨by rfl, ?_⟩) hHeld ?_
          rotate_left
          · intro w9 hSw; (try dsimp only at hSw); go_simp; (try with_reducible rfl)
          try simp only [Act.put, List.setIfInBounds_toArray, List.set_cons_zero, List.set_cons_succ]
          refine wpAnyH_take (i := 7) (v := ?_) rfl (by kernel_rfl) (by kernel_rfl) (by kernel_rfl) (fun _ _ _ h => h) (Or.inl ⟨by rfl, ?_⟩) hHeld ?_
          rotate_left
          · intro w9 hSw; (try dsimp only at hSw); go_simp; (try with_reducible rfl)
          try simp only [Act.put, List.setIfInBounds_toArray, List.set_cons_zero, List.set_cons_succ]
          refine wpAnyH_take (i := 8) (v := ?_) rfl (by kernel_rfl) (by kernel_rfl) (by kernel_rfl) (fun _ _ _ h => h) (Or.inl ⟨by rfl, ?_⟩) hHeld ?_
          rotate_left
          · intro w9 hSw; (try dsimp only at hSw); go_simp; (try with_reducible rfl)
          try simp only [Act.put, List.setIfInBounds_toArray, List.set_cons_zero, List.set_cons_succ]
          refine wpAnyH_take (i := 9) (v := ?_) rfl (by kernel_rfl) (by kernel_rfl) (by kernel_rfl) (fun _ _ _ h => h) (Or.inl ⟨by rfl, ?_⟩) hHeld ?_
          rotate_left
          · intro w9 hSw; (try dsimp only at hSw); go_simp; (try with_reducible rfl)
          try simp only [Act.put, List.setIfInBounds_toArray, List.set_cons_zero, List.set_cons_succ]
          refine wpAnyH_take (i := 10) (v := ?_) rfl (by kernel_rfl) (by kernel_rfl) (by kernel_rfl) (fun _ _ _ h => h) (Or.inl ⟨by rfl, ?_⟩) hHeld ?_
          rotate_left
          · intro w9 hSw; (try dsimp only at hSw); go_simp; (try with_reducible rfl)
          try simp only [Act.put, List.setIfInBounds_toArray, List.set_cons_zero, List.set_cons_succ]
          refine wpAnyH_take (i := 11) (v := ?_) rfl (by kernel_rfl) (by kernel_rfl) (by kernel_rfl) (fun _ _ _ h => h) (Or.inl ⟨by rfl, ?_⟩) hHeld ?_
          rotate_left
          · intro w9 hSw; (try dsimp only at hSw); go_simp; (try with_reducible rfl)
          try simp only [Act.put, List.setIfInBounds_toArray, List.set_cons_zero, List.set_cons_succ]
          refine wpAnyH_take (i := 12) (v := ?_) rfl (by kernel_rfl) (by kernel_rfl) (by kernel_rfl) (fun _ _ _ h => h) (Or.inl ⟨by rfl, ?_⟩) hHeld ?_
          rotate_left
          · intro w9 hSw; (try dsimp only at hSw); go_simp; (try with_reducible rfl)
          try simp only [Act.put, List.setIfInBounds_toArray, List.set_cons_zero, List.set_cons_succ]
          refine wpAnyH_take (i := 13) (v := ?_) rfl (by kernel_rfl) (by kernel_rfl) (by kernel_rfl) (fun _ _ _ h => h) (Or.inl ⟨by rfl, ?_⟩) hHeld ?_
          rotate_left
          · intro w9 hSw; (try dsimp only at hSw); go_simp; (try with_reducible rfl)
          try simp only [Act.put, List.setIfInBounds_toArray, List.set_cons_zero, List.set_cons_succ]
          refine wpAnyH_take (i := 14) (v := ?_) rfl (by kernel_rfl) (by kernel_rfl) (by kernel_rfl) (fun _ _ _ h => h) (Or.inl ⟨by rfl, ?_⟩) hHeld ?_
          rotate_left
          · intro w9 hSw; (try dsimp only at hSw); go_simp; (try with_reducible rfl)
          try simp only [Act.put, List.setIfInBounds_toArray, List.set_cons_zero, List.set_cons_succ]
          refine wpAnyH_take (i := 15) (v := ?_) rfl (by kernel_rfl) (by kernel_rfl) (by kernel_rfl) (fun _ _ _ h => h) (Or.inl ⟨by rfl, ?_⟩) hHeld ?_
          rotate_left
          · intro w9 hSw; (try dsimp only at hSw); go_simp; (try with_reducible rfl)
          try simp only [Act.put, List.setIfInBounds_toArray, List.set_cons_zero, List.set_cons_succ]
          refine wpAnyH_ready (rs := [16, 17]) (by kernel_rfl) (by simp) (AllReadyH.cons rfl (fun K0 hK0 => ?_) (AllReadyH.cons rfl (fun K0 hK0 => ?_) AllReadyH.nil))
          · go_simp
            refine (cL _ (Kept.refl [] _).drew).mono ?_
            rintro e w3 ⟨rfl, hL3, hO3⟩
            go_wp2_with fail
            refine hK0.out _ _ ⟨hL3.keeps.cell k0 (by simp), hL3.keeps.cell k1 (by simp), hL3.keeps.cell k2 (by simp)⟩ (fun hHeld => ?_)
            clear hK0 K0
            try simp only [Act.put, List.setIfInBounds_toArray, List.set_cons_zero, List.set_cons_succ]
            refine wpAnyH_ready (rs := [17]) (by kernel_rfl) (by simp) (AllReadyH.cons rfl (fun K0 hK0 => ?_) AllReadyH.nil)
            go_simp
            have hKa := (Kept.refl [] w3).alloc (.cells #[.int .i64 0, .int .i64 0, .int .i64 0, .string ⟨#[]⟩, .int .u64 0, .slice none 0 0, .int .i64 0] 31)
            refine hK0.out _ _ ⟨hKa.cell (hL3.keeps.cell k0 (by simp)) (by simp), hKa.cell (hL3.keeps.cell k1 (by simp)) (by simp), hKa.cell (hL3.keeps.cell k2 (by simp)) (by simp)⟩ (fun hHeld => ?_)
            clear hK0 K0
            try simp only [Act.put, List.setIfInBounds_toArray, List.set_cons_zero, List.set_cons_succ]
            refine wpAnyH_ready (rs := [18]) (by kernel_rfl) (by simp) (AllReadyH.cons rfl (fun K0 hK0 => ?_) AllReadyH.nil)
            go_simp
            have hKb := (Kept.refl [] w3).alloc (.cells #[.int .i64 vv.c, .int .i64 0, .int .i64 vv.r, .string (str vv.p), .int .u64 vv.d, .slice none 0 0, .int .i64 0] 31)
            refine hK0.out _ _ ⟨hKb.cell (hL3.keeps.cell k0 (by simp)) (by simp), hKb.cell (hL3.keeps.cell k1 (by simp)) (by simp), hKb.cell (hL3.keeps.cell k2 (by simp)) (by simp)⟩ (fun hHeld => ?_)
            refine wpAnyH_done (by kernel_rfl) ?_ _
            go_wp2_with fail
            go_meet
            exact ⟨w3.heap.size, rfl, (cells7 (heap_alloc_new w3 _)).1, hL3.kept hKb, (off_kept (Kept.refl [] wr).drew).trans (hO3.trans (off_kept hKb))⟩
          · go_simp
            have hKa := (Kept.refl [] wr.drew).alloc (.cells #[.int .i64 0, .int .i64 0, .int .i64 0, .string ⟨#[]⟩, .int .u64 0, .slice none 0 0, .int .i64 0] 31)
            refine hK0.out _ _ ⟨hKa.cell c0 (by simp), hKa.cell c1 (by simp), hKa.cell c2 (by simp)⟩ (fun hHeld => ?_)
            clear hK0 K0
            try simp only [Act.put, List.setIfInBounds_toArray, List.set_cons_zero, List.set_cons_succ]
            refine wpAnyH_ready (rs := [16]) (by kernel_rfl) (by simp) (AllReadyH.cons rfl (fun K0 hK0 => ?_) AllReadyH.nil)
            go_simp
            refine (cL _ ((Kept.refl [] _).alloc _).drew).mono ?_
            rintro e w3 ⟨rfl, hL3, hO3⟩
            go_wp2_with fail
            have hB3 := box_off hO3
            refine hK0.out _ _ ⟨hL3.keeps.cell k0 (by simp), hL3.keeps.cell k1 (by simp), hL3.keeps.cell k2 (by simp)⟩ (fun hHeld => ?_)
            clear hK0 K0
            try simp only [Act.put, List.setIfInBounds_toArray, List.set_cons_zero, List.set_cons_succ]
            refine wpAnyH_ready (rs := [18]) (by kernel_rfl) (by simp) (AllReadyH.cons rfl (fun K0 hK0 => ?_) AllReadyH.nil)
            have f0 := frozen_in hB3.out 0
            have f1 := frozen_in hB3.out 1
            have f2 := frozen_in hB3.out 2
            have f3 := frozen_in hB3.out 3
            have f4 := frozen_in hB3.out 4
            have f5 := frozen_in hB3.out 5
            have f6 := frozen_in hB3.out 6
            obtain ⟨m0, m1, m2, m3, m4, m5, m6⟩ := cells7 hB3.out
            go_simp
            have hKb : Kept [wr.heap.size] w3 (set7w w3 wr.heap.size (.int .i64 vv.c) (.int .i64 0) (.int .i64 vv.r) (.string (str vv.p)) (.int .u64 vv.d) (.slice none 0 0) (.int .i64 0)) := set7_kept (Kept.refl _ _) (.inl (by simp)) _ _ _ _ _ _ _
            have hl1 : w1.heap.size ≤ wr.heap.size := HLv.out.keeps.size
            have hL4 := live_box hL3 hB3.out hKb hl1
            refine hK0.out _ _ ⟨hL4.keeps.cell k0 (by simp), hL4.keeps.cell k1 (by simp), hL4.keeps.cell k2 (by simp)⟩ (fun hHeld => ?_)
            refine wpAnyH_done (by kernel_rfl) ?_ _
            go_wp2_with fail
            go_meet
            exact ⟨wr.heap.size, rfl, (cells7 (set7 hB3.out _ _ _ _ _ _ _)).1, hL4, off_box ((off_kept ((Kept.refl [] wr).alloc _).drew).trans hO3) hKb (Nat.le_refl _)⟩
        case rest =>
          obtain ⟨Bk, rfl, r0, HL3, HO3⟩ := hcut
          have HG2f : Hid (G2 = landG G x.b x.n x.l) := HT
          by_cases hv2 : vv.c = 2
          · have hcode : endV G x.b x.n x.l = none := (landV_code _ _ _ _).1 (by rw [← HVV.out]; exact hv2)
            have HW2 : Hid (WasP G2 (L ++ [readV G2 [97]])) := by have := was_land HRe.out HW.out hcode; rw [← HG2f.out] at this; exact this
            have cRd : ∀ W, Kept [] wc W → Calls Try.prog 8 #[.pointer (some ⟨b, 0, none⟩), .string ⟨#[97]⟩] W fun e w' => e = .returned (vdV (readV G2 [97])) ∧ Kept [] W w' := fun W hk => live_readP (HL3.out.kept hk) [97] (by simp)
            obtain ⟨yv, hyv⟩ : ∃ yv, yv = readV G2 [97] := ⟨_, rfl⟩
            rw [← hyv] at cRd HW2
            simp only [vdV, vdW] at cRd
            have HOc : Hid (OwnV w1.heap.size wc u6 L) := ownV_off HO.out HO3.out
            clear hyv hcode cL
            go_wp2_with fail
            refine (cRd _ (Kept.refl [] _)).mono ?_
            rintro _ w4 ⟨rfl, hK4⟩
            have hO4 : OwnV w1.heap.size w4 u6 L := ownV_off HOc.out (off_kept hK4)
            have hs4 : w1.heap.size ≤ w4.heap.size := (HL3.out.kept hK4).keeps.size
            have HL4 : Hid (Live w1 w4 b G2) := HL3.out.kept hK4
            have hKb := (Kept.refl [] w4).alloc (.cells #[.int .i64 yv.c, .int .i64 0, .int .i64 yv.r, .string (str yv.p), .int .u64 yv.d, .slice none 0 0, .int .i64 0] 31)
            have HO5 : Hid (OwnV w1.heap.size (w4.alloc (.cells #[.int .i64 yv.c, .int .i64 0, .int .i64 yv.r, .string (str yv.p), .int .u64 yv.d, .slice none 0 0, .int .i64 0] 31)) u6 L) := ownV_off hO4 (off_kept hKb)
            have HB5 : Hid ((w4.alloc (.cells #[.int .i64 yv.c, .int .i64 0, .int .i64 yv.r, .string (str yv.p), .int .u64 yv.d, .slice none 0 0, .int .i64 0] 31)).heap[w4.heap.size]? = some (.cells #[.int .i64 yv.c, .int .i64 0, .int .i64 yv.r, .string (str yv.p), .int .u64 yv.d, .slice none 0 0, .int .i64 0] 31 (0, 0))) := heap_alloc_new w4 _
            have HKb : Hid (Kept [] w4 (w4.alloc (.cells #[.int .i64 yv.c, .int .i64 0, .int .i64 yv.r, .string (str yv.p), .int .u64 yv.d, .slice none 0 0, .int .i64 0] 31))) := hKb
            clear hO4 hKb hK4
            go_wp2_with (at_builtin; refine wp_appV rfl _ _ rfl w1.heap.size u6 L rfl HO5.out w4.heap.size yv rfl HB5.out (by omega) (by simp; omega) ?a1)
            intro v' w5 hO6 hg6
            have HL6 : Hid (Live w1 w5 b G2) := live_rowV (HL4.out.kept HKb.out) HO5.out hg6
            go_wp2_with fail
            go_roundw
            case rel => exact ⟨i + 1, L ++ [yv], by go_num, by omega, by rw [← HG2e.out]; exact HL6.out, by rw [← HG2e.out]; exact HW2.out, hO6⟩
            case measure => (simp [intOf] <;> omega)
          · have hcode : endV G x.b x.n x.l ≠ none := fun h => hv2 (by rw [HVV.out]; exact (landV_code _ _ _ _).2 h)
            have HGG : Hid (G2 = G) := by
              cases he : endV G x.b x.n x.l with
              | none => exact absurd he hcode
              | some v => exact HG2f.out.trans (landV_some he).2
            clear hcode cL
            go_wp2_with fail
            go_roundw
            case rel => exact ⟨i + 1, L, by go_num, by omega, by rw [← HG2e.out]; exact HL3.out, by rw [← HG2e.out, HGG.out]; exact HW.out, ownV_off HO.out HO3.out⟩
            case measure => (simp [intOf] <;> omega)
      · have hlt' : ¬ (i : Int) < D.length := by omega
        have HLe : Hid (Live w1 wr b (landAll D)) := by have := HLv.out; rw [List.take_of_length_le (by omega)] at this; exact this
        have HWe : Hid (WasP (landAll D) L) := by have := HW.out; rw [List.take_of_length_le (by omega)] at this; exact this
        clear HLv HW
        have HRe : Hid (Reach (landAll D)) := landAll_reach D
        have hle := landAll_len D
        generalize landAll D = G at *
        have hgl : G.cs.length ≤ 100 := by omega
        have cC := live_commits HLe.out HRe.out.wf (by omega)
        have HKe : Hid (Kept [] w wr) := HK1.out.trans HLe.out.keeps (by simp)
        obtain ⟨uo, un, uc, hue, hLL⟩ : ∃ uo un uc, u6 = .slice uo un uc ∧ L.length = un := by
          obtain ⟨h1, h2⟩ := HO.out
          rcases h2 with ⟨h2, h3⟩ | ⟨g, cap, cur, hv, _⟩
          · exact ⟨none, 0, 0, h2, by omega⟩
          · exact ⟨_, _, _, hv, rfl⟩
        subst hue
        have hun : un = G.cs.length := by rw [← hLL]; exact HWe.out.1
        subst hun
        clear hle
        go_wp2_with fail
        refine cC.mono ?_
        rintro _ w4 ⟨v4, K4, rfl, hc4, hR4, hO4, hK4⟩
        obtain ⟨ao4, cp4, rfl, hS4, _⟩ := hR4.sl hO4
        have hkl : K4.length = G.cs.length := by rw [← hc4]; simp
        rw [hkl] at hS4 ⊢
        by_cases hz0 : G.cs.length = 0
        · have hz1 : (G.cs.length : Int) = 0 := by omega
          go_wp2_with fail
          go_ret
          exact ⟨rfl, HKe.out.trans hK4 (by simp)⟩
        · obtain ⟨gn, hgn⟩ : ∃ gn : Nat, gn = G.cs.length := ⟨_, rfl⟩
          have HGn : Hid (gn = G.cs.length) := hgn
          rw [← hgn] at hS4 hz0 hgl ⊢
          obtain ⟨az, haz⟩ : ∃ az : Nat, (at0.tmod gn + gn).tmod gn = (az : Int) := ⟨((at0.tmod gn + gn).tmod gn).toNat, by rw [Int.toNat_of_nonneg (Int.tmod_nonneg _ (by have := pre_range at0 (k := gn) (by omega); omega))]⟩
          have hb1 := pre_range at0 (k := gn) (by omega)
          have hal : az < gn := by have := Int.tmod_lt_of_pos (at0.tmod gn + gn) (b := (gn : Int)) (by omega); omega
          have hnz : ¬ (gn : Int) = 0 := by omega
          have q2 : IntKind.i64.wrap (at0.tmod gn) = at0.tmod gn := IntWalk.i64_in _ (by omega)
          have q3 : IntKind.i64.wrap (at0.tmod gn + gn) = at0.tmod gn + gn := IntWalk.i64_in _ (by omega)
          have q5 : IntKind.i64.wrap ((at0.tmod gn + gn).tmod gn) = (az : Int) := by rw [haz]; exact IntWalk.i64_in _ (by omega)
          have hw4 := HWe.out.2 az (by rw [HWe.out.1, ← hgn]; exact hal)
          obtain ⟨G', hld, hLa⟩ := hw4
          obtain ⟨b4, o4, rfl, _⟩ := hS4.some (by omega)
          have hsm : ∀ x ∈ K4, SmallC x.1 := fun x hx => small_wf HRe.out.wf (by rw [← hc4]; exact List.mem_map_of_mem hx)
          have hW' := wf_loads wf_void hld
          have HW' : Hid (G'.cs.length = az + 1) := by show G'.cs.length = az + 1; rw [hW'.2]; simp [voidG]; omega
          have cL1 := load_call w4 _ _ _ _ (hS4.take (k := az + 1) (by omega)) (by omega) (fun x hx => hsm x (List.mem_of_mem_take hx))
          have cL2 := fun W (hk : Kept [] w4 W) => load_call W _ _ _ _ ((hS4.drop (k := az + 1) (by omega)).kept hk) (by omega) (fun x hx => hsm x (List.mem_of_mem_drop hx))
          rw [List.map_take, hc4, hld] at cL1
          simp only [LoadP] at cL1
          simp only [List.map_drop, hc4] at cL2
          have HL4 : Hid (OwnV w1.heap.size w4 (.slice uo G.cs.length uc) L) := ownV_off HO.out (off_kept hK4)
          have haL : az < L.length := by rw [HWe.out.1, ← hgn]; exact hal
          obtain ⟨g7, c7, he7, hc7, hm7, hx7⟩ := HL4.out.cells haL
          rw [HWe.out.1] at he7 hc7
          cases he7
          rw [hLa] at hx7
          obtain ⟨yv, hyv⟩ : ∃ yv, yv = readV G' [97] := ⟨_, rfl⟩
          rw [← hyv] at hx7
          have HX7 : Hid (CellsV w4 g7 (az * 7) yv) := hx7
          have HKw : Hid (Kept [] w w4) := HKe.out.trans hK4 (by simp)
          have hcg := hS4.2.1
          have hcm := hS4.2.2.1
          rw [← hgn] at hc7
          unfold maxLen at hcm hm7
          have hend : loadL voidG (G.cs.drop (az + 1)) = if az + 1 = gn then some voidG else none := by
            split
            · rw [List.drop_eq_nil_of_le (by omega)]; rfl
            · exact load_later HRe.out.wf (by omega) (by omega)
          simp only [hend] at cL2
          have HYv : Hid (yv = readV G' [97]) := hyv
          clear hkl hgn hLL hLa hb1 hsm hS4 hR4 hO4 hK4 hld hc4 haL HL4 hx7 hyv hend hW' HO HLe HWe HKe cC HGn
          go_wp2_with fail
          refine cL1.mono ?_
          rintro _ w5 ⟨b5, rfl, hL5⟩
          have cL3 := cL2 w5 hL5.keeps
          have HL5 : Hid (Live w4 w5 b5 G') := hL5
          have cH := fun W (hk : Kept [] w5 W) => live_head (HL5.out.kept hk)
          have cRd : ∀ W, Kept [] w5 W → Calls Try.prog 8 #[.pointer (some ⟨b5, 0, none⟩), .string ⟨#[97]⟩] W fun e w' => e = .returned (vdV yv) ∧ Kept [] W w' := fun W hk => by rw [HYv.out]; exact live_readP (HL5.out.kept hk) [97] (by simp)
          have cA := fun W => alike_plain W yv
          simp only [vdV, vdW] at cRd cA
          rw [HW'.out] at cH
          have hcast : ((az + 1 : Nat) : Int) = (az : Int) + 1 := by omega
          rw [hcast] at cH
          clear cL1 cL2 hL5 hcast
          have hwa : IntKind.i64.wrap ((az : Int) + 1) = (az : Int) + 1 := IntWalk.i64_in _ (by omega)
          have halI : (az : Int) < gn := by omega
          have halJ : (az : Int) < (az : Int) + 1 := by omega
          have halc : az ≤ uc := by omega
          have hal0 : (0 : Int) ≤ az := by omega
          by_cases hae : az + 1 = gn
          · subst hae
            rw [if_pos rfl] at cL3
            simp only [LoadP, Nat.sub_self] at cL3
            by_cases hcp : cp4 = az + 1
            · have cLz := load_call w5 (some ⟨b4, o4, none⟩) 0 0 [] ⟨by simp, by omega, by unfold maxLen; omega, by simp, by simp⟩ (by omega) (by simp)
              simp only [List.map_nil, loadL, LoadP] at cLz
              subst hcp
              clear cL3
              go_wp2_with fail
              refine cLz.mono ?_
              rintro _ w6 ⟨b6, rfl, hL6⟩
              have HK6 : Hid (Kept [] w5 w6) := hL6.keeps
              have HX : Hid (CellsV w6 g7 (az * 7) yv) := HX7.out.kept (HL5.out.keeps.trans HK6.out (by simp))
              go_upto_region 23 with fail
              obtain ⟨x0, x1, x2, x3, x4, x5, x6⟩ := HX.out
              first | go_region_held3 (fun w' => w'.cell? ⟨g7, az * 7, none⟩ = some (.int .i64 yv.c) ∧ w'.cell? ⟨g7, az * 7 + 1, none⟩ = some (.int .i64 0) ∧ w'.cell? ⟨g7, az * 7 + 2, none⟩ = some (.int .i64 yv.r) ∧ w'.cell? ⟨g7, az * 7 + 3, none⟩ = some (.string (str yv.p)) ∧ w'.cell? ⟨g7, az * 7 + 4, none⟩ = some (.int .u64 yv.d) ∧ w'.cell? ⟨g7, az * 7 + 5, none⟩ = some (.slice none 0 0) ∧ w'.cell? ⟨g7, az * 7 + 6, none⟩ = some (.int .i64 0))
                (first | go_keep | exact HX.out.kept hK9 | exact HX.out.kept hK8)
                (first
                  | (go_at_call 11; refine (cH _ ?_).mono ?_; exact HK6.out.drew; rintro e w7 ⟨rfl, rfl⟩)
                  | (go_at_call 8; refine (cRd _ ?_).mono ?_; exact HK6.out.drew; rintro e w8 ⟨rfl, hK8⟩; replace hK8 := (Kept.refl [] _).drew.trans hK8 (by simp))
                  | (go_at_call 12; refine (cA _).mono ?_; rintro e w9 ⟨rfl, hK9⟩; replace hK9 := hK8.trans hK9 (by simp))) | fail
              go_wp2_with fail
              go_ret
              exact ⟨rfl, ((HKw.out.trans HL5.out.keeps (by simp)).trans HK6.out (by simp)).trans hK9 (by simp)⟩
            · go_wp2_with fail
              refine cL3.mono ?_
              rintro _ w6 ⟨b6, rfl, hL6⟩
              have HK6 : Hid (Kept [] w5 w6) := hL6.keeps
              have HX : Hid (CellsV w6 g7 (az * 7) yv) := HX7.out.kept (HL5.out.keeps.trans HK6.out (by simp))
              go_upto_region 23 with fail
              obtain ⟨x0, x1, x2, x3, x4, x5, x6⟩ := HX.out
              first | go_region_held3 (fun w' => w'.cell? ⟨g7, az * 7, none⟩ = some (.int .i64 yv.c) ∧ w'.cell? ⟨g7, az * 7 + 1, none⟩ = some (.int .i64 0) ∧ w'.cell? ⟨g7, az * 7 + 2, none⟩ = some (.int .i64 yv.r) ∧ w'.cell? ⟨g7, az * 7 + 3, none⟩ = some (.string (str yv.p)) ∧ w'.cell? ⟨g7, az * 7 + 4, none⟩ = some (.int .u64 yv.d) ∧ w'.cell? ⟨g7, az * 7 + 5, none⟩ = some (.slice none 0 0) ∧ w'.cell? ⟨g7, az * 7 + 6, none⟩ = some (.int .i64 0))
                (first | go_keep | exact HX.out.kept hK9 | exact HX.out.kept hK8)
                (first
                  | (go_at_call 11; refine (cH _ ?_).mono ?_; exact HK6.out.drew; rintro e w7 ⟨rfl, rfl⟩)
                  | (go_at_call 8; refine (cRd _ ?_).mono ?_; exact HK6.out.drew; rintro e w8 ⟨rfl, hK8⟩; replace hK8 := (Kept.refl [] _).drew.trans hK8 (by simp))
                  | (go_at_call 12; refine (cA _).mono ?_; rintro e w9 ⟨rfl, hK9⟩; replace hK9 := hK8.trans hK9 (by simp))) | fail
              go_wp2_with fail
              go_ret
              exact ⟨rfl, ((HKw.out.trans HL5.out.keeps (by simp)).trans HK6.out (by simp)).trans hK9 (by simp)⟩
          · have hae' : ((az : Int) + 1 == (gn : Int)) = false := by simp; omega
            rw [if_neg hae] at cL3
            simp only [LoadP] at cL3
            have hcp : ¬ cp4 = az + 1 := by omega
            clear hae
            go_wp2_with fail
            refine cL3.mono ?_
            rintro _ w6 ⟨rfl, hK6⟩
            have HK6 : Hid (Kept [] w5 w6) := hK6
            have HX : Hid (CellsV w6 g7 (az * 7) yv) := HX7.out.kept (HL5.out.keeps.trans HK6.out (by simp))
            go_upto_region 23 with fail
            obtain ⟨x0, x1, x2, x3, x4, x5, x6⟩ := HX.out
            first | go_region_held3 (fun w' => w'.cell? ⟨g7, az * 7, none⟩ = some (.int .i64 yv.c) ∧ w'.cell? ⟨g7, az * 7 + 1, none⟩ = some (.int .i64 0) ∧ w'.cell? ⟨g7, az * 7 + 2, none⟩ = some (.int .i64 yv.r) ∧ w'.cell? ⟨g7, az * 7 + 3, none⟩ = some (.string (str yv.p)) ∧ w'.cell? ⟨g7, az * 7 + 4, none⟩ = some (.int .u64 yv.d) ∧ w'.cell? ⟨g7, az * 7 + 5, none⟩ = some (.slice none 0 0) ∧ w'.cell? ⟨g7, az * 7 + 6, none⟩ = some (.int .i64 0))
              (first | go_keep | exact HX.out.kept hK9 | exact HX.out.kept hK8)
              (first
                | (go_at_call 11; refine (cH _ ?_).mono ?_; exact HK6.out.drew; rintro e w7 ⟨rfl, rfl⟩)
                | (go_at_call 8; refine (cRd _ ?_).mono ?_; exact HK6.out.drew; rintro e w8 ⟨rfl, hK8⟩; replace hK8 := (Kept.refl [] _).drew.trans hK8 (by simp))
                | (go_at_call 12; refine (cA _).mono ?_; rintro e w9 ⟨rfl, hK9⟩; replace hK9 := hK8.trans hK9 (by simp))) | fail
            go_wp2_with fail
            go_ret
            exact ⟨rfl, ((HKw.out.trans HL5.out.keeps (by simp)).trans HK6.out (by simp)).trans hK9 (by simp)⟩

end Go.Proofs.Ytfoghemiaidnhab
